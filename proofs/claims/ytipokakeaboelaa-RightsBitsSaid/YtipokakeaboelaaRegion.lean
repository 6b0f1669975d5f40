/- A region that draws its order: every operation of its head yields one value in whatever world that extends the first one, calls extend the world they get; one operation of the head may lay a new block; the tail's order is forced. One walk in the order of the text serves every order, and one goal is left. -/
import Derived.StillTail
import Derived.Below
import Derived.Lib.QuietBelow
namespace Go.Proofs.Ytipokakeaboelaa
open Go.RowKit Go.Sort

theorem ret_int {k : IntKind} {a b : Int} (h : a = b) : Ending.returned (.int k a) = .returned (.int k b) := by rw [h]
theorem ret_bool {a b : Bool} (h : a = b) : Ending.returned (.bool a) = .returned (.bool b) := by rw [h]
/-- The world under a name of its own. -/
theorem at_world {P : Program} {c : Code} {Q : Exit → Act → World → Prop} {a : Act} {W0 : World} (h : ∀ W, W = W0 → c.wp P Q a W) : c.wp P Q a W0 := h W0 rfl
/-- What is known of old blocks behind a call. -/
theorem bcell {n : Nat} {W w1 : World} (hb : Below n W w1) (hn : n = W.heap.size) :
    (∀ b o, b < n → w1.cell? ⟨b, o, none⟩ = W.cell? ⟨b, o, none⟩) ∧ (∀ b o, b < n → w1.frozen? ⟨b, o, none⟩ = W.frozen? ⟨b, o, none⟩) ∧
    (∀ b, b < n → b < w1.heap.size) ∧ (∀ b, b < n → (b = w1.heap.size) = False) ∧ (∀ b, b < n → (w1.heap.size = b) = False) :=
  ⟨fun b o h => hb.cell (p := ⟨b, o, none⟩) h, fun b o h => hb.frozen (p := ⟨b, o, none⟩) h, fun b h => by have := hn ▸ hb.size; omega,
    fun b h => by have := hn ▸ hb.size; simp; omega, fun b h => by have := hn ▸ hb.size; simp; omega⟩
theorem cell?_none_set (w : World) (a : Addr) (v : Value) (h : w.cell? a = none) : (w.setCell a v).cell? a = none := by
  unfold World.cell? at h ⊢
  simp only [World.setCell, Array.getElem?_modify, ↓reduceIte]
  cases hh : w.heap[a.block]? with
  | none => rfl
  | some x =>
    rw [hh] at h
    cases x with
    | cells c e f =>
      simp only [Option.map_some]
      simp only at h
      cases hs : a.spot.isSome with
      | true => simp
      | false =>
        rw [hs] at h
        simp only [Bool.false_eq_true, if_false] at h ⊢
        have : c.size ≤ a.off := Array.getElem?_eq_none_iff.1 h
        rw [Array.getElem?_eq_none_iff]
        simpa using this
    | _ => rfl
/-- A cell behind a store into a world that is not written out. -/
theorem cell_set (w : World) (a b : Addr) (v : Value) : (w.setCell a v).cell? b = if a = b then (if (w.cell? a).isSome = true then some v else none) else w.cell? b := by
  by_cases h : a = b
  · subst h
    rw [if_pos rfl]
    cases hc : w.cell? a with
    | none => simp [cell?_none_set w a v hc]
    | some u => rw [World.cell?_setCell_same (h := hc)]; simp
  · rw [if_neg h, World.cell?_setCell_other (h := h)]

section
variable {P : Program} {ops : Array Oper} {md : Region.Mode} {C : World → Prop}

/-- A world that extends another one, by what the head's operations may do. -/
def Ext (w w' : World) : Prop := Below w.heap.size w w'
/-- One operation, carried out in w, has yielded v in w itself; or it is a call that hands back v in a world that extends w. -/
def rUpon (P : Program) (w : World) (v : Value) : Result Next → Prop
  | .ok (.value u) w' => w' = w ∧ u = v
  | .ok .skip w' => w' = w ∧ v = undef
  | .ok (.enter f args) w' => w' = w ∧ Calls P f args w (fun e w'' => e = .returned v ∧ Ext w w'')
  | _ => False
def rAt (P : Program) (o : Oper) (a : Act) (w : World) (v : Value) : Prop := rUpon P w v ((execOp a.eval o).run P w)
def rOper (P : Program) (o : Oper) (a : Act) (C : World → Prop) (next : Act → Prop) : Prop := ∃ v, (∀ w, C w → rAt P o a w v) ∧ next (a.put o.dst v)
/-- The walk in the order of a list. -/
def rWalk (P : Program) (ops : Array Oper) (C : World → Prop) (Q : Act → Prop) : List Oper → Act → Prop
  | [], a => Q a
  | o :: rest, a => if Region.wanted o (yielded ops a.tmps) then rOper P o a C (rWalk P ops C Q rest) else rWalk P ops C Q rest (a.put o.dst undef)
theorem rWalk_nil {Q : Act → Prop} {a : Act} (h : Q a) : rWalk P ops C Q [] a := h
theorem rWalk_step {Q : Act → Prop} {a : Act} {o : Oper} {rest : List Oper}
    (h : ∀ K : Act → Prop, (∀ a, rWalk P ops C Q rest a → K a) → if Region.wanted o (yielded ops a.tmps) then rOper P o a C K else K (a.put o.dst undef)) : rWalk P ops C Q (o :: rest) a :=
  h _ (fun _ h => h)

/-- Operation o leaves v in its temporary, in state a, in every world of the class. -/
def rYields (P : Program) (ops : Array Oper) (C : World → Prop) (o : Oper) (v : Value) (a : Act) : Prop :=
  (Region.wanted o (yielded ops a.tmps) = true ∧ ∀ w, C w → rAt P o a w v) ∨ (Region.wanted o (yielded ops a.tmps) = false ∧ v = undef)
theorem rYields.same {o : Oper} {v : Value} {a a' : Act} (hy : rYields P ops C o v a) (he : execOp a'.eval o = execOp a.eval o)
    (hw : Region.wanted o (yielded ops a'.tmps) = Region.wanted o (yielded ops a.tmps)) : rYields P ops C o v a' := by
  unfold rYields rAt at *
  rw [he, hw]
  exact hy
theorem rYields.of_walk {o : Oper} {rest : List Oper} {Q : Act → Prop} {a : Act} (h : rWalk P ops C Q (o :: rest) a) : ∃ v, rYields P ops C o v a ∧ rWalk P ops C Q rest (a.put o.dst v) := by
  simp only [rWalk] at h
  cases hw : Region.wanted o (yielded ops a.tmps) with
  | true =>
    rw [hw, if_pos rfl] at h
    obtain ⟨v, h1, h2⟩ := h
    exact ⟨v, .inl ⟨hw, h1⟩, h2⟩
  | false =>
    rw [hw, if_neg (by simp)] at h
    exact ⟨undef, .inr ⟨hw, rfl⟩, h⟩

/-- Whatever order is picked among the first n operations; L: what holds when they are all done. -/
def rAny (P : Program) (md : Region.Mode) (ops : Array Oper) (C : World → Prop) (n : Nat) (L : Array Bool → Act → Prop) : Nat → Array Bool → Act → Prop
  | 0, listed, a => L listed a
  | f + 1, listed, a => Region.ready md ops listed ≠ [] ∧
    ∀ i ∈ Region.ready md ops listed, i < n ∧ ∃ o v, ops[i]? = some o ∧ rYields P ops C o v a ∧ rAny P md ops C n L f (listed.setIfInBounds i true) (a.put o.dst v)

/-- No tail operation is ready while one of the head is not done; 'k', done ahead by fiat, counts as the caller says. -/
def TailWaits (md : Region.Mode) (ops : Array Oper) (n : Nat) (listed : Array Bool) : Prop :=
  ∀ i, i < n → listed.getD i true = false → ∀ t, n ≤ t → t ∉ Region.ready md ops listed

theorem rAny_first {n i : Nat} {oi : Oper} {v : Value} {L : Array Bool → Act → Prop} (hi : ops[i]? = some oi) (hsel : ∀ (j : Nat) (o : Oper) cs b, ops[j]? = some o → o.op ≠ .select cs b)
    (hin : i < n) (Inv : Array Bool → Prop) (hinv : ∀ listed j, Inv listed → j ∈ Region.ready md ops listed → j < n → Inv (listed.setIfInBounds j true))
    (htail : ∀ listed, Inv listed → TailWaits md ops n listed)
    (hdone : ∀ listed a, L listed a → ∀ j ∈ Region.ready md ops listed, n ≤ j) :
    ∀ (f : Nat) (listed : Array Bool) (a : Act), Inv listed →
      (∀ j oj, ops[j]? = some oj → j ≠ i → listed.getD j true = false → (∀ e ∈ oj.after, Region.binds md e = true → e.on ≠ i) → oi.apart ops oj = true) →
      i ∈ Region.ready md ops listed → rYields P ops C oi v a →
      rAny P md ops C n L f (listed.setIfInBounds i true) (a.put oi.dst v) → rAny P md ops C n L (f + 1) listed a := by
  intro f
  induction f with
  | zero =>
    intro listed a inv _ hr hy H
    have hun := (mem_ready.1 hr).1
    refine ⟨fun h => (by rw [h] at hr; cases hr), fun j hj => ?_⟩
    have hjn : j < n := by
      rcases Nat.lt_or_ge j n with h | h
      · exact h
      · exact absurd hj (htail _ inv i hin hun j h)
    by_cases hji : j = i
    · subst hji; exact ⟨hjn, oi, v, hi, hy, H⟩
    · have := hdone _ _ H j (ready_mono hj hji)
      omega
  | succ f ih =>
    intro listed a inv hfree hr hy H
    have hun := (mem_ready.1 hr).1
    refine ⟨fun h => (by rw [h] at hr; cases hr), fun j hj => ?_⟩
    have hjn : j < n := by
      rcases Nat.lt_or_ge j n with h | h
      · exact h
      · exact absurd hj (htail _ inv i hin hun j h)
    by_cases hji : j = i
    · subst hji; exact ⟨hjn, oi, v, hi, hy, H⟩
    · obtain ⟨_, oj, u, hoj, hyj, hK⟩ := H.2 j (ready_mono hj hji)
      obtain ⟨hjun, oj', hoj', hall⟩ := mem_ready.1 hj
      have hoo : oj' = oj := Option.some.inj (hoj'.symm.trans hoj)
      subst hoo
      have hnot : ∀ e ∈ oj'.after, Region.binds md e = true → e.on ≠ i := fun e he hb heq => by
        have h1 := hall e he hb
        rw [heq, getD_both hun] at h1
        cases h1
      obtain ⟨h1, h2, h3⟩ := Oper.apart_spec (hfree j oj' hoj hji hjun hnot)
      have hyj' : rYields P ops C oj' u a := hyj.same (execOp_put oj' (fun cs b => hsel j oj' cs b hoj) a oi.dst v h1).symm (wanted_put oj' a oi.dst v h1).symm
      have hyi' : rYields P ops C oi v (a.put oj'.dst u) := hy.same (execOp_put oi (fun cs b => hsel i oi cs b hi) a oj'.dst u h3) (wanted_put oi a oj'.dst u h3)
      refine ⟨hjn, oj', u, hoj, hyj', ?_⟩
      refine ih (listed.setIfInBounds j true) _ (hinv _ _ inv hj hjn) (fun k ok hk hki hun' hno => ?_) (ready_mono hr (Ne.symm hji)) hyi' ?_
      · refine hfree k ok hk hki ?_ hno
        by_cases hjk : j = k
        · subst hjk; exact hjun
        · rw [getD_set_ne true hjk] at hun'; exact hun'
      · rw [Array.setIfInBounds_comm _ _ hji, ← Act.put_comm a v u h2]
        exact hK

/-- The check: the operations 'is', one behind the other, each ready and apart from all that may run beside it; behind them g tail operations in forced order from n on. -/
def orderB (md : Region.Mode) (ops : Array Oper) (n g : Nat) : List Nat → Array Bool → Bool
  | [], listed => Region.seqB md ops g n listed
  | k :: is, listed => decide (k < n) && (Region.ready md ops listed).contains k && Region.free md ops listed k && orderB md ops n g is (listed.setIfInBounds k true)

theorem rAny_order {n g : Nat} {Lq : Act → Prop} (hsel : Region.noSelect ops = true) (Inv : Array Bool → Prop)
    (hinv : ∀ listed j, Inv listed → j ∈ Region.ready md ops listed → j < n → Inv (listed.setIfInBounds j true)) (htail : ∀ listed, Inv listed → TailWaits md ops n listed) :
    ∀ (is : List Nat) (l : List Oper) (listed : Array Bool) (a : Act), is.map (fun i => ops[i]?) = l.map some → Inv listed → orderB md ops n g is listed = true → rWalk P ops C Lq l a →
      rAny P md ops C n (fun listed' a' => Region.seqB md ops g n listed' = true ∧ Lq a') is.length listed a
  | [], [], listed, a, _, _, hB, h => ⟨hB, h⟩
  | [], _ :: _, _, _, hl, _, _, _ => by cases hl
  | _ :: _, [], _, _, hl, _, _, _ => by cases hl
  | k :: is, o :: l, listed, a, hl, inv, hB, h => by
    simp only [List.map_cons, List.cons.injEq] at hl
    obtain ⟨h0, hl⟩ := hl
    simp only [orderB, Bool.and_eq_true, decide_eq_true_eq] at hB
    obtain ⟨⟨⟨hkn, hr⟩, hf⟩, hB'⟩ := hB
    have hr' : k ∈ Region.ready md ops listed := by simpa using hr
    obtain ⟨v, hy, hK⟩ := rYields.of_walk h
    exact rAny_first h0 (Region.noSelect_spec hsel) hkn Inv hinv htail (fun listed' a' hL => seqB_ready hL.1) is.length listed a inv (Region.free_spec h0 hf) hr' hy
      (rAny_order hsel Inv hinv htail is l _ _ hl (hinv _ _ inv hr' hkn) hB' hK)

theorem heap_new (w : World) (o : Obj) : (w.alloc o).heap[w.heap.size]? = some o := by
  show (w.heap.push o)[w.heap.size]? = some o
  simp

theorem map_erase {α β : Type} (f : α → β) : ∀ (l : List α) (j : Nat), (l.eraseIdx j).map f = (l.map f).eraseIdx j
  | [], _ => rfl
  | _ :: _, 0 => rfl
  | x :: l, j + 1 => by simp only [List.eraseIdx_cons_succ, List.map_cons, map_erase f l j]

theorem cells_of_heap {w : World} {b : Nat} {cs : Array Value} {T : TypeId} (h : w.heap[b]? = some (.cells cs T)) (o : Nat) : w.cell? ⟨b, o, none⟩ = cs[o]? := by
  simp [World.cell?, h]
theorem frozen_of_heap {w : World} {b : Nat} {cs : Array Value} {T : TypeId} (h : w.heap[b]? = some (.cells cs T)) (o : Nat) : w.frozen? ⟨b, o, none⟩ = false := by
  simp [World.frozen?, h]

theorem alloc_cell (w : World) (o : Obj) (b i : Nat) (h : (b = w.heap.size) = False) : (w.alloc o).cell? ⟨b, i, none⟩ = w.cell? ⟨b, i, none⟩ :=
  World.cell?_alloc_old w o ⟨b, i, none⟩ (by simpa using h)
theorem alloc_frozen (w : World) (o : Obj) (b i : Nat) (h : (b = w.heap.size) = False) : (w.alloc o).frozen? ⟨b, i, none⟩ = w.frozen? ⟨b, i, none⟩ := by
  have h' : b ≠ w.heap.size := by simpa using h
  simp only [World.frozen?, World.alloc, Array.getElem?_push, if_neg h']

/-- Block b holds just these cells, and may be written. -/
def Box (w : World) (b : Nat) (cs : List Value) (T : TypeId) : Prop := w.heap[b]? = some (.cells cs.toArray T (0, 0))
theorem Box.facts {w : World} {b : Nat} {cs : List Value} {T : TypeId} (h : Box w b cs T) :
    (∀ i, w.cell? ⟨b, i, none⟩ = cs[i]?) ∧ (∀ i, w.frozen? ⟨b, i, none⟩ = false) ∧ ((b = w.heap.size) = False) ∧ ((w.heap.size = b) = False) := by
  have hb : b < w.heap.size := by
    rcases Nat.lt_or_ge b w.heap.size with h' | h'
    · exact h'
    · unfold Box at h; rw [Array.getElem?_eq_none h'] at h; cases h
  refine ⟨fun i => ?_, fun i => ?_, by simp; omega, by simp; omega⟩
  · unfold Box at h; simp [World.cell?, h]
  · unfold Box at h; simp [World.frozen?, h]
theorem Box.lt {w : World} {b : Nat} {cs : List Value} {T : TypeId} (h : Box w b cs T) : b < w.heap.size := by
  rcases Nat.lt_or_ge b w.heap.size with h' | h'
  · exact h'
  · unfold Box at h; rw [Array.getElem?_eq_none h'] at h; cases h
theorem Box.ext {w w' : World} {b n : Nat} {cs : List Value} {T : TypeId} (h : Box w b cs T) (hb : Below n w w') (hn : n = w.heap.size) : Box w' b cs T := by
  unfold Box at *
  rw [hb.block b (hn ▸ Box.lt h)]; exact h
theorem Box.grown {w : World} {b : Nat} {cs : List Value} {T : TypeId} (h : Box w b cs T) : ∀ d os, Box (grow (redrawn w d) os) b cs T := fun d os =>
  h.ext (below_regrown w d os) rfl
theorem Box.cells {w : World} {b : Nat} {cs : List Value} {T : TypeId} (h : Box w b cs T) : ∀ d os i, (grow (redrawn w d) os).cell? ⟨b, i, none⟩ = cs[i]? := fun d os => (h.grown d os).facts.1
theorem heap_alloc (w : World) (o : Obj) (b : Nat) : (w.alloc o).heap[b]? = if b = w.heap.size then some o else w.heap[b]? := by
  show (w.heap.push o)[b]? = _
  rw [Array.getElem?_push]
theorem Box.new {w : World} {b : Nat} {cs : List Value} {T : TypeId} (hb : b = w.heap.size) : Box (w.alloc (.cells cs.toArray T)) b cs T := by
  unfold Box; rw [heap_alloc, if_pos hb]
theorem Box.old {w : World} {b : Nat} {cs : List Value} {T : TypeId} (h : Box w b cs T) (o : Obj) : Box (w.alloc o) b cs T := by
  have := Box.lt h
  unfold Box at *; rw [heap_alloc, if_neg (by omega), h]
theorem Box.set {w : World} {b : Nat} {cs : List Value} {T : TypeId} (h : Box w b cs T) (i : Nat) (v : Value) : Box (w.setCell ⟨b, i, none⟩ v) b (cs.set i v) T := by
  unfold Box at *
  simp only [World.setCell, Array.getElem?_modify, ↓reduceIte, h, Option.map_some]
  simp
theorem Box.set_ne {w : World} {b : Nat} {cs : List Value} {T : TypeId} (h : Box w b cs T) (a : Addr) (v : Value) (hne : a.block ≠ b) : Box (w.setCell a v) b cs T := by
  unfold Box at *
  simp only [World.setCell, Array.getElem?_modify]
  rw [if_neg hne, h]
theorem at_call {P : Program} {f : FuncId} {args : Array Value} {R : Ending → World → Prop} {W0 : World} (h : ∀ W, W = W0 → Calls P f args W R) : Calls P f args W0 R := h W0 rfl

theorem Ext.trans {a b c : World} (h : Ext a b) (k : Ext b c) : Ext a c := Below.trans h (Below.mono k h.size)

/-- One operation that yields, in an actual world. -/
theorem wpOp_of_yields {i : Nat} {o : Oper} {v : Value} {a : Act} {K : Act → World → Prop} {Q : Exit → Act → World → Prop} {w : World} (hi : ops[i]? = some o) (hC : C w) (hy : rYields P ops C o v a)
    (h : ∀ w', Ext w w' → K (a.put o.dst v) w') : wpOp P ops Q i K a w := by
  have hrefl : Ext w w := Below.refl _ _
  unfold wpOp
  simp only [hi]
  rcases hy with ⟨hw, hv⟩ | ⟨hw, rfl⟩
  · rw [if_pos hw]
    refine .inl ?_
    have h3 := hv w hC
    unfold rAt at h3
    unfold Oper.wp
    generalize (execOp a.eval o).run P w = r at *
    cases r with
    | ok n w' =>
      cases n <;> simp only [rUpon] at h3 <;> simp only [Oper.upon]
      case value u => obtain ⟨e1, e2⟩ := h3; rw [e1, e2]; exact h _ hrefl
      case skip => obtain ⟨e1, e2⟩ := h3; rw [e1, ← e2]; exact h _ hrefl
      case enter f args =>
        obtain ⟨e1, hc⟩ := h3
        rw [e1]
        exact hc.mono fun e w'' ⟨he, hw''⟩ => by subst he; exact h _ hw''
    | halt x w' => simp only [rUpon] at h3
  · rw [hw, if_neg (by simp)]
    exact h _ hrefl

/-- What is left of the head behind the new block (or without one), then the tail: D: the worlds met here. -/
theorem rAny_then_tail {n g : Nat} {Q : Exit → Act → World → Prop} {Lq : Act → Prop} {l : List Oper} {dst : Option Tmp} {u : Value} {D : World → Prop} (hsel : Region.noSelect ops = true)
    (hg : l.length = g) (hl : ∀ j, l[j]? = ops[n + j]?) (hD : ∀ w, D w → C w) (hDe : ∀ w w', D w → Ext w w' → D w')
    (J : Nat → Prop) (hap : ∀ i o, i < n → ¬ J i → ops[i]? = some o → (∀ d, dst = some d → d ∉ o.looksAt ops) ∧ (∀ d, dst = some d → o.dst ≠ some d))
    (hQ : ∀ a w, D w → Lq a → wpList P ops Q l (a.put dst u) w) :
    ∀ (f : Nat) (listed : Array Bool) (a : Act) (w : World), D w → (∀ i, J i → listed.getD i true = true) →
      rAny P md ops C n (fun listed' a' => Region.seqB md ops g n listed' = true ∧ Lq a') f listed a → wpAny P md ops Q (f + g) listed (a.put dst u) w
  | 0, listed, a, w, hw, _, h => by
    rw [Nat.zero_add]
    subst hg
    exact wpAny_of_seq l n listed _ w hl h.1 (hQ a w hw h.2)
  | f + 1, listed, a, w, hw, hJ, h => by
    rw [show f + 1 + g = (f + g) + 1 by omega]
    refine ⟨fun h0 => absurd h0 h.1, fun i hi => ?_⟩
    obtain ⟨hin, o, v, ho, hy, hK⟩ := h.2 i hi
    have hiun := (mem_ready.1 hi).1
    have hnJ : ¬ J i := fun hj => by rw [hJ i hj] at hiun; cases hiun
    obtain ⟨h1, h2⟩ := hap i o hin hnJ ho
    have hy' : rYields P ops C o v (a.put dst u) := hy.same (execOp_put o (fun cs b => Region.noSelect_spec hsel i o cs b ho) a dst u h1) (wanted_put o a dst u h1)
    refine wpOp_of_yields ho (hD w hw) hy' fun w' hw' => ?_
    rw [Act.put_comm a u v h2]
    refine rAny_then_tail hsel hg hl hD hDe J hap hQ f _ _ w' (hDe _ _ hw hw') (fun k hk => ?_) hK
    by_cases hik : i = k
    · subst hik; exact absurd hk hnJ
    · rw [getD_set_ne true hik]; exact hJ k hk

def apartB (ops : Array Oper) (n j : Nat) (d : Tmp) : Bool :=
  (List.range n).all fun i => i == j || match ops[i]? with
    | some o => !(o.looksAt ops).contains d && o.dst != some d
    | none => true
theorem apartB_spec {n j d : Nat} (h : apartB ops n j d = true) : ∀ i o, i < n → ¬ i = j → ops[i]? = some o → (∀ d', some d = some d' → d' ∉ o.looksAt ops) ∧ (∀ d', some d = some d' → o.dst ≠ some d') := by
  intro i o hi hj ho
  have h1 := List.all_eq_true.1 h i (List.mem_range.2 hi)
  simp only [ho, Bool.or_eq_true, beq_iff_eq, hj, false_or, Bool.and_eq_true, Bool.not_eq_true', bne_iff_ne] at h1
  refine ⟨fun d' hd => ?_, fun d' hd => ?_⟩
  · cases hd; simpa using h1.1
  · cases hd; exact h1.2

/-- The check for a region without a new block in its head. -/
def plainB (md : Region.Mode) (ops : Array Oper) (n : Nat) : Bool :=
  Region.noSelect ops && decide (n < ops.size) && Region.sinkB md ops n && Region.chainB md ops n && orderB md ops n (ops.size - n) (List.range n) (Array.replicate ops.size false)

theorem headInv0 {n : Nat} : HeadInv md ops n (Array.replicate ops.size false) :=
  ⟨by simp, fun j oj _ hl => (by rw [getD_replicate_false] at hl; cases hl), fun t _ ht => getD_in (by simpa using ht) (getD_replicate_false _ _)⟩

theorem wp_region_tail {id : Nat} {Q : Exit → Act → World → Prop} {a : Act} {w : World} {l : List Oper} (n : Nat) (hm : P.follows .mixedOrders = true) (hB : plainB .any l.toArray n = true)
    (hC : ∀ w', Below w.heap.size w w' → C w')
    (h : rWalk P l.toArray C (fun a' => ∀ w', Below w.heap.size w w' → wpList P l.toArray Q (l.drop n) a' w') (l.take n) a) : (Code.region id l.toArray true).wp P Q a w := by
  simp only [plainB, Bool.and_eq_true, decide_eq_true_eq] at hB
  obtain ⟨⟨⟨⟨hsel, hn⟩, hs⟩, hc⟩, ho⟩ := hB
  have hn' : n < l.length := by simpa using hn
  have hmap : (List.range n).map (fun i => l.toArray[i]?) = (l.take n).map some := by
    apply List.ext_getElem?
    intro j
    simp only [List.getElem?_map, List.getElem?_take]
    by_cases hj : j < n
    · simp [hj, show j < l.length by omega]
    · simp [hj]
  have H := rAny_order (md := .any) (g := l.toArray.size - n) hsel (HeadInv .any l.toArray n) (fun listed j inv hj hjn => inv.set hj hjn) (fun listed inv i hi hun => tail_waits hs hc hn inv _ i rfl hi hun)
    (List.range n) (l.take n) _ a hmap headInv0 ho h
  refine wp_region_any hm ?_
  have := rAny_then_tail (md := .any) (Q := Q) (l := l.drop n) (dst := none) (u := undef) (D := fun w' => Below w.heap.size w w') hsel (by simp) (fun j => by simp [List.getElem?_drop])
    hC (fun a b ha hb => Ext.trans (a := w) ha hb) (fun _ => False) (fun i o _ _ _ => ⟨fun d hd => (by cases hd), fun d hd => (by cases hd)⟩)
    (fun a' w' hw' hl => hl w' hw') _ _ _ { w with drawn := w.drawn + 1 } ⟨rfl, rfl, rfl, Nat.le_refl _, fun _ _ => rfl⟩ (fun i hi => hi.elim) H
  rw [List.length_range, show n + (l.toArray.size - n) = l.toArray.size by omega] at this
  exact this

/-- The check for a region whose head's operation j lays a new block, which nothing of the head looks at. -/
def freshB (md : Region.Mode) (ops : Array Oper) (n j : Nat) (d : Tmp) : Bool :=
  Region.noSelect ops && decide (n < ops.size) && decide (j < n) && Region.sinkB md ops n && Region.chainB md ops n && apartB ops n j d &&
  orderB md ops n (ops.size - n) ((List.range n).eraseIdx j) ((Array.replicate ops.size false).setIfInBounds j true)

theorem rAny_with_fresh {n g j : Nat} {d : Tmp} {T : TypeId} {cs : Array Value} {oj : Oper} {Q : Exit → Act → World → Prop} {Lq : Act → Prop} {l : List Oper} {w0 : World} (hsel : Region.noSelect ops = true)
    (hg : l.length = g) (hl : ∀ k, l[k]? = ops[n + k]?) (hjn : j < n) (hoj : ops[j]? = some oj) (hd : oj.dst = some d) (hafter : oj.after = #[]) (hguard : oj.guard = none)
    (hrun : ∀ (ρ : Operand → Value) (w : World), (execOp ρ oj).run P w = .ok (.value (.pointer (some ⟨w.heap.size, 0, none⟩))) (w.alloc (.cells cs T)))
    (hs : Region.sinkB md ops n = true) (hc : Region.chainB md ops n = true) (hn : n < ops.size) (hap : apartB ops n j d = true)
    (hC : ∀ w', Below w0.heap.size w0 w' → C w')
    (hQ : ∀ a w b, Below w0.heap.size w0 w → w0.heap.size ≤ b → b < w.heap.size → w.heap[b]? = some (.cells cs T) → Lq a → wpList P ops Q l (a.put (some d) (.pointer (some ⟨b, 0, none⟩))) w) :
    ∀ (f : Nat) (listed : Array Bool) (a : Act) (w : World), listed.getD j true = false → HeadInv md ops n listed → Below w0.heap.size w0 w →
      rAny P md ops C n (fun listed' a' => Region.seqB md ops g n listed' = true ∧ Lq a') f (listed.setIfInBounds j true) a → wpAny P md ops Q (f + g + 1) listed a w := by
  have hjsz : j < ops.size := by omega
  intro f
  induction f with
  | zero =>
    intro listed a w hun inv hw h
    have hjr : j ∈ Region.ready md ops listed := mem_ready.2 ⟨hun, oj, hoj, fun e he => (by rw [hafter] at he; simp at he)⟩
    refine ⟨fun h0 => (by rw [h0] at hjr; cases hjr), fun i hi => ?_⟩
    by_cases hij : i = j
    · subst hij
      unfold wpOp
      simp only [hoj]
      have hwant : Region.wanted oj (yielded ops a.tmps) = true := by simp [Region.wanted, hguard]
      rw [if_pos hwant]
      refine .inl ?_
      unfold Oper.wp
      rw [hrun, Oper.upon_value, hd]
      exact rAny_then_tail (md := md) (D := fun w' => Below w0.heap.size w0 w' ∧ w.heap.size < w'.heap.size ∧ w'.heap[w.heap.size]? = some (.cells cs T)) hsel hg hl (fun w' h => hC w' h.1)
        (fun a b ha hb => ⟨Below.trans ha.1 (Below.mono hb ha.1.size), Nat.lt_of_lt_of_le ha.2.1 hb.size, (hb.block _ ha.2.1).trans ha.2.2⟩) (fun k => k = i) (apartB_spec hap)
        (fun a' w' hw' hl' => hQ a' w' w.heap.size hw'.1 hw.size hw'.2.1 hw'.2.2 hl') 0 _ a _ ⟨hw.alloc hw.size _, by simp, heap_new _ _⟩
        (fun k hk => by subst hk; simp [inv.size, hjsz]) h
    · have h1 := seqB_ready h.1 i (ready_mono hi hij)
      exact absurd hi (tail_waits hs hc hn inv _ j rfl hjn hun i h1)
  | succ f ih =>
    intro listed a w hun inv hw h
    have hjr : j ∈ Region.ready md ops listed := mem_ready.2 ⟨hun, oj, hoj, fun e he => (by rw [hafter] at he; simp at he)⟩
    refine ⟨fun h0 => (by rw [h0] at hjr; cases hjr), fun i hi => ?_⟩
    by_cases hij : i = j
    · subst hij
      unfold wpOp
      simp only [hoj]
      have hwant : Region.wanted oj (yielded ops a.tmps) = true := by simp [Region.wanted, hguard]
      rw [if_pos hwant]
      refine .inl ?_
      unfold Oper.wp
      rw [hrun, Oper.upon_value, hd]
      exact rAny_then_tail (md := md) (D := fun w' => Below w0.heap.size w0 w' ∧ w.heap.size < w'.heap.size ∧ w'.heap[w.heap.size]? = some (.cells cs T)) hsel hg hl (fun w' h => hC w' h.1)
        (fun a b ha hb => ⟨Below.trans ha.1 (Below.mono hb ha.1.size), Nat.lt_of_lt_of_le ha.2.1 hb.size, (hb.block _ ha.2.1).trans ha.2.2⟩) (fun k => k = i) (apartB_spec hap)
        (fun a' w' hw' hl' => hQ a' w' w.heap.size hw'.1 hw.size hw'.2.1 hw'.2.2 hl') (f + 1) _ a _ ⟨hw.alloc hw.size _, by simp, heap_new _ _⟩
        (fun k hk => by subst hk; simp [inv.size, hjsz]) h
    · obtain ⟨hin, o, v, ho, hy, hK⟩ := h.2 i (ready_mono hi hij)
      refine wpOp_of_yields ho (hC w hw) hy fun w' hw' => ?_
      rw [show f + 1 + g = f + g + 1 by omega]
      refine ih _ _ w' (by rw [getD_set_ne true hij]; exact hun) (inv.set hi hin) (Ext.trans hw hw') ?_
      rw [Array.setIfInBounds_comm _ _ hij]
      exact hK

theorem wp_region_fresh {id : Nat} {Q : Exit → Act → World → Prop} {a : Act} {w : World} {l : List Oper} (n j : Nat) (d : Tmp) {T : TypeId} {cs : Array Value} {oj : Oper} (hoj : l.toArray[j]? = some oj) (hd : oj.dst = some d) (hafter : oj.after = #[]) (hguard : oj.guard = none)
    (hrun : ∀ (ρ : Operand → Value) (w : World), (execOp ρ oj).run P w = .ok (.value (.pointer (some ⟨w.heap.size, 0, none⟩))) (w.alloc (.cells cs T)))
    (hm : P.follows .mixedOrders = true) (hB : freshB .any l.toArray n j d = true)
    (hC : ∀ w', Below w.heap.size w w' → C w')
    (h : rWalk P l.toArray C (fun a' => ∀ w' b, Below w.heap.size w w' → w.heap.size ≤ b → b < w'.heap.size → w'.heap[b]? = some (.cells cs T) → wpList P l.toArray Q (l.drop n) (a'.put (some d) (.pointer (some ⟨b, 0, none⟩))) w') ((l.take n).eraseIdx j) a) :
    (Code.region id l.toArray true).wp P Q a w := by
  simp only [freshB, Bool.and_eq_true, decide_eq_true_eq] at hB
  obtain ⟨⟨⟨⟨⟨⟨hsel, hn⟩, hjn⟩, hs⟩, hc⟩, hap⟩, ho⟩ := hB
  have hn' : n < l.length := by simpa using hn
  have hmap0 : (List.range n).map (fun i => l.toArray[i]?) = (l.take n).map some := by
    apply List.ext_getElem?
    intro j
    simp only [List.getElem?_map, List.getElem?_take]
    by_cases hj : j < n
    · simp [hj, show j < l.length by omega]
    · simp [hj]
  have hmap : ((List.range n).eraseIdx j).map (fun i => l.toArray[i]?) = ((l.take n).eraseIdx j).map some := by
    rw [map_erase, map_erase, hmap0]
  have hsz : (Array.replicate l.toArray.size false).getD j true = false := getD_in (by simp; omega) (getD_replicate_false _ _)
  have inv1 : ∀ listed, HeadInv .any l.toArray n listed → TailWaits .any l.toArray n listed := fun listed inv i hi hun => tail_waits hs hc hn inv _ i rfl hi hun
  have invj : HeadInv .any l.toArray n ((Array.replicate l.toArray.size false).setIfInBounds j true) :=
    HeadInv.set headInv0 (mem_ready.2 ⟨hsz, oj, hoj, fun e he => (by rw [hafter] at he; simp at he)⟩) hjn
  have H := rAny_order (md := .any) (g := l.toArray.size - n) hsel (HeadInv .any l.toArray n) (fun listed j inv hj hjn => inv.set hj hjn) inv1 ((List.range n).eraseIdx j) ((l.take n).eraseIdx j) _ a hmap invj ho h
  refine wp_region_any hm ?_
  have := rAny_with_fresh (md := .any) (Q := Q) (l := l.drop n) (w0 := w) hsel (by simp) (fun j => by simp [List.getElem?_drop]) hjn hoj hd hafter hguard hrun hs hc hn hap hC
    (fun a' w' b h1 h2 h3 h4 hl => hl w' b h1 h2 h3 h4) _ (Array.replicate l.toArray.size false) a { w with drawn := w.drawn + 1 } hsz headInv0 ⟨rfl, rfl, rfl, Nat.le_refl _, fun _ _ => rfl⟩ H
  rw [List.length_eraseIdx, List.length_range, if_pos hjn, show n - 1 + (l.toArray.size - n) + 1 = l.toArray.size by omega] at this
  exact this
end
end Go.Proofs.Ytipokakeaboelaa
