/- Put together: MesV, RegD. -/
import Derived.Test.YtaegobkkcgheeaaRows
import Derived.Test.YtaegobkkcgheeaaPut13
import Derived.Test.YtaegobkkcgheeaaPut16
import Derived.Test.YtaegobkkcgheeaaPut1
import Derived.WalkKit
import Derived.WalkSpells
import Derived.WalkLawsBesides
import Derived.Laws.Externs
import Derived.Deep.QuietTactic
import Derived.BigQuiet
import Derived.Lib.Hide
import Derived.Handy
import Derived.LoopN
import Derived.RegionTactic
import Derived.Test.YtaegobkkcgheeaaPut0
import Derived.Deep.Draws
import Derived.Sort.Grow
namespace Go.Proofs.Ytaegobkkcgheeaa
open Go.RowKit Go.Sort
attribute [local go_sem] rOper rAt rUpon cell_set sg_i64 sg_u64 alloc_cell alloc_frozen
attribute [local go_sem 10000] pt_eql pt_neq tri_eql
attribute [local irreducible] rWalk

theorem apex_any (T : Tri3) (a b : Pt) (w : World) : Calls Try.prog 56 #[.agg #[.int .i64 T.A.x, .int .i64 T.A.y, .int .i64 T.B.x, .int .i64 T.B.y, .int .i64 T.C.x, .int .i64 T.C.y], .agg #[.int .i64 a.x, .int .i64 a.y], .agg #[.int .i64 b.x, .int .i64 b.y]] w fun e w' => e = .returned (.agg #[.int .i64 (apx T a b).x, .int .i64 (apx T a b).y]) ∧ Below w.heap.size w w' := by
  unfold apx
  cases a0 : peqI T.A.x T.A.y a.x a.y with
  | false =>
    cases b0 : peqI T.A.x T.A.y b.x b.y with
    | false => rw [if_pos ⟨rfl, rfl⟩]; exact apex_0 T a b a0 b0 w
    | true =>
      rw [if_neg (by simp)]
      cases a1 : peqI T.B.x T.B.y a.x a.y with
      | false =>
        cases b1 : peqI T.B.x T.B.y b.x b.y with
        | false => rw [if_pos ⟨rfl, rfl⟩]; exact apex_20 T a b a0 b0 a1 b1 w
        | true => rw [if_neg (by simp)]; exact apex_22 T a b a0 b0 a1 b1 w
      | true => rw [if_neg (by simp)]; exact apex_21 T a b a0 b0 a1 w
  | true =>
    rw [if_neg (by simp)]
    cases a1 : peqI T.B.x T.B.y a.x a.y with
    | false =>
      cases b1 : peqI T.B.x T.B.y b.x b.y with
      | false => rw [if_pos ⟨rfl, rfl⟩]; exact apex_10 T a b a0 a1 b1 w
      | true => rw [if_neg (by simp)]; exact apex_12 T a b a0 a1 b1 w
    | true => rw [if_neg (by simp)]; exact apex_11 T a b a0 a1 w
set_option maxRecDepth 100000 in
set_option maxHeartbeats 1000000 in
theorem replace_ok (mb b : Nat) (E : Es) (a1 a2 : Option Addr) (cap1 cap2 n1 n2 : Nat) (L1 L2 : List Tri3) (hn1 : Hid (L1.length = n1)) (hm1 : n1 ≤ 1000000) (hok1 : ∀ T ∈ L1, okT T) (hn2 : Hid (L2.length = n2)) (hm2 : n2 ≤ 1000000) (hok2 : ∀ T ∈ L2, okT T) (h1 : (takeRun E L1).1 = n1) (h2 : (putRun (takeRun E L1).2 L2).1 = n2) (w : World) (Bm : Box w mb [.map (some b)] 65) (Hm : HoldsMap eW eT okW w b E) (Hr1 : RowAt cT 6 w a1 L1) (Hr2 : RowAt cT 6 w a2 L2) :
    Calls Try.prog 58 #[.pointer (some ⟨mb, 0, none⟩), .slice a1 n1 cap1, .slice a2 n2 cap2] w fun e w' => e = .returned (.int .i64 0) ∧ w.grownBy w' (some b) ∧ HoldsMap eW eT okW w' b (putRun (takeRun E L1).2 L2).2 := by
  have c1 := mtake_any mb b E a1 cap1 n1 L1 hn1 hm1 hok1
  rw [h1] at c1
  generalize (takeRun E L1).2 = F at *
  have c2 := mput_any mb b F a2 cap2 n2 L2 hn2 hm2 hok2
  rw [h2] at c2
  generalize (putRun F L2).2 = G at *
  clear h1 h2 hok1 hok2 hn1 hn2
  have d1 : decide ((n1 : Int) < (n1 : Int)) = false := by simp
  have d2 : decide ((n2 : Int) < (n2 : Int)) = false := by simp
  go_enter Try.func58, Try.ntmps58
  go_wp2_with fail
  refine (c1 _ Bm Hm Hr1).mono ?_
  rintro e w1 ⟨rfl, hg, H1⟩
  replace Bm := Bm.turn Hm hg
  replace Hr2 := Hr2.turn cT_ne Hm hg
  clear Hm Hr1
  go_wp2_with fail
  refine (c2 _ Bm H1 Hr2).mono ?_
  rintro e w2 ⟨rfl, hh, H2⟩
  replace hg := grown_trans hg hh
  clear hh
  go_wp2
  go_ret
  exact ⟨rfl, hg, H2⟩
end Go.Proofs.Ytaegobkkcgheeaa

namespace Go.Proofs.Ytaegobkkcgheeaa.Dr
open Go.RowKit Go.Sort

section
variable {P : Program} {ops : Array Oper} {md : Region.Mode} {C : World → Prop}
/-- A world that extends another one. -/
def Ext (w w' : World) : Prop := Below w.heap.size w w' ∧ w.drawn ≤ w'.drawn
/-- One operation, carried out in w, has yielded v in w itself; or it is a call that hands back v in a world that extends w. -/
def rUpon (P : Program) (w : World) (v : Value) : Result Next → Prop
  | .ok (.value u) w' => w' = w ∧ u = v
  | .ok .skip w' => w' = w ∧ v = undef
  | .ok (.enter f args) w' => w' = w ∧ Calls P f args w (fun e w'' => e = .returned v ∧ Ext w w'')
  | _ => False
def rAt (P : Program) (o : Oper) (a : Act) (w : World) (v : Value) : Prop := rUpon P w v ((execOp a.eval o).run P w)
def rOper (P : Program) (o : Oper) (a : Act) (C : World → Prop) (next : Act → Prop) : Prop := ∃ v, (∀ w, C w → rAt P o a w v) ∧ next (a.put o.dst v)
/-- The walk in the order of a list. -/
def rWalk (P : Program) (ops : Array Oper) (C : World → Prop) (Q : Act → Prop) : List Oper → Act → Prop
  | [], a => Q a
  | o :: rest, a => if Region.wanted o (yielded ops a.tmps) then rOper P o a C (rWalk P ops C Q rest) else rWalk P ops C Q rest (a.put o.dst undef)
theorem rWalk_nil {Q : Act → Prop} {a : Act} (h : Q a) : rWalk P ops C Q [] a := h
theorem rWalk_step {Q : Act → Prop} {a : Act} {o : Oper} {rest : List Oper}
    (h : ∀ K : Act → Prop, (∀ a, rWalk P ops C Q rest a → K a) → if Region.wanted o (yielded ops a.tmps) then rOper P o a C K else K (a.put o.dst undef)) : rWalk P ops C Q (o :: rest) a :=
  h _ (fun _ h => h)

/-- Operation o leaves v in its temporary, in state a, in every world of the class. -/
def rYields (P : Program) (ops : Array Oper) (C : World → Prop) (o : Oper) (v : Value) (a : Act) : Prop :=
  (Region.wanted o (yielded ops a.tmps) = true ∧ ∀ w, C w → rAt P o a w v) ∨ (Region.wanted o (yielded ops a.tmps) = false ∧ v = undef)
theorem rYields.same {o : Oper} {v : Value} {a a' : Act} (hy : rYields P ops C o v a) (he : execOp a'.eval o = execOp a.eval o)
    (hw : Region.wanted o (yielded ops a'.tmps) = Region.wanted o (yielded ops a.tmps)) : rYields P ops C o v a' := by
  unfold rYields rAt at *
  rw [he, hw]
  exact hy
theorem rYields.of_walk {o : Oper} {rest : List Oper} {Q : Act → Prop} {a : Act} (h : rWalk P ops C Q (o :: rest) a) : ∃ v, rYields P ops C o v a ∧ rWalk P ops C Q rest (a.put o.dst v) := by
  simp only [rWalk] at h
  cases hw : Region.wanted o (yielded ops a.tmps) with
  | true =>
    rw [hw, if_pos rfl] at h
    obtain ⟨v, h1, h2⟩ := h
    exact ⟨v, .inl ⟨hw, h1⟩, h2⟩
  | false =>
    rw [hw, if_neg (by simp)] at h
    exact ⟨undef, .inr ⟨hw, rfl⟩, h⟩

/-- Whatever order is picked among the first n operations; L: what holds when they are all done. -/
def rAny (P : Program) (md : Region.Mode) (ops : Array Oper) (C : World → Prop) (n : Nat) (L : Array Bool → Act → Prop) : Nat → Array Bool → Act → Prop
  | 0, listed, a => L listed a
  | f + 1, listed, a => Region.ready md ops listed ≠ [] ∧
    ∀ i ∈ Region.ready md ops listed, i < n ∧ ∃ o v, ops[i]? = some o ∧ rYields P ops C o v a ∧ rAny P md ops C n L f (listed.setIfInBounds i true) (a.put o.dst v)

/-- No tail operation is ready while one of the head is not done; 'k', done ahead by fiat, counts as the caller says. -/
def TailWaits (md : Region.Mode) (ops : Array Oper) (n : Nat) (listed : Array Bool) : Prop :=
  ∀ i, i < n → listed.getD i true = false → ∀ t, n ≤ t → t ∉ Region.ready md ops listed

theorem rAny_first {n i : Nat} {oi : Oper} {v : Value} {L : Array Bool → Act → Prop} (hi : ops[i]? = some oi) (hsel : ∀ (j : Nat) (o : Oper) cs b, ops[j]? = some o → o.op ≠ .select cs b)
    (hin : i < n) (Inv : Array Bool → Prop) (hinv : ∀ listed j, Inv listed → j ∈ Region.ready md ops listed → j < n → Inv (listed.setIfInBounds j true))
    (htail : ∀ listed, Inv listed → TailWaits md ops n listed)
    (hdone : ∀ listed a, L listed a → ∀ j ∈ Region.ready md ops listed, n ≤ j) :
    ∀ (f : Nat) (listed : Array Bool) (a : Act), Inv listed →
      (∀ j oj, ops[j]? = some oj → j ≠ i → listed.getD j true = false → (∀ e ∈ oj.after, Region.binds md e = true → e.on ≠ i) → oi.apart ops oj = true) →
      i ∈ Region.ready md ops listed → rYields P ops C oi v a →
      rAny P md ops C n L f (listed.setIfInBounds i true) (a.put oi.dst v) → rAny P md ops C n L (f + 1) listed a := by
  intro f
  induction f with
  | zero =>
    intro listed a inv _ hr hy H
    have hun := (mem_ready.1 hr).1
    refine ⟨fun h => (by rw [h] at hr; cases hr), fun j hj => ?_⟩
    have hjn : j < n := by
      rcases Nat.lt_or_ge j n with h | h
      · exact h
      · exact absurd hj (htail _ inv i hin hun j h)
    by_cases hji : j = i
    · subst hji; exact ⟨hjn, oi, v, hi, hy, H⟩
    · have := hdone _ _ H j (ready_mono hj hji)
      omega
  | succ f ih =>
    intro listed a inv hfree hr hy H
    have hun := (mem_ready.1 hr).1
    refine ⟨fun h => (by rw [h] at hr; cases hr), fun j hj => ?_⟩
    have hjn : j < n := by
      rcases Nat.lt_or_ge j n with h | h
      · exact h
      · exact absurd hj (htail _ inv i hin hun j h)
    by_cases hji : j = i
    · subst hji; exact ⟨hjn, oi, v, hi, hy, H⟩
    · obtain ⟨_, oj, u, hoj, hyj, hK⟩ := H.2 j (ready_mono hj hji)
      obtain ⟨hjun, oj', hoj', hall⟩ := mem_ready.1 hj
      have hoo : oj' = oj := Option.some.inj (hoj'.symm.trans hoj)
      subst hoo
      have hnot : ∀ e ∈ oj'.after, Region.binds md e = true → e.on ≠ i := fun e he hb heq => by
        have h1 := hall e he hb
        rw [heq, getD_both hun] at h1
        cases h1
      obtain ⟨h1, h2, h3⟩ := Oper.apart_spec (hfree j oj' hoj hji hjun hnot)
      have hyj' : rYields P ops C oj' u a := hyj.same (execOp_put oj' (fun cs b => hsel j oj' cs b hoj) a oi.dst v h1).symm (wanted_put oj' a oi.dst v h1).symm
      have hyi' : rYields P ops C oi v (a.put oj'.dst u) := hy.same (execOp_put oi (fun cs b => hsel i oi cs b hi) a oj'.dst u h3) (wanted_put oi a oj'.dst u h3)
      refine ⟨hjn, oj', u, hoj, hyj', ?_⟩
      refine ih (listed.setIfInBounds j true) _ (hinv _ _ inv hj hjn) (fun k ok hk hki hun' hno => ?_) (ready_mono hr (Ne.symm hji)) hyi' ?_
      · refine hfree k ok hk hki ?_ hno
        by_cases hjk : j = k
        · subst hjk; exact hjun
        · rw [getD_set_ne true hjk] at hun'; exact hun'
      · rw [Array.setIfInBounds_comm _ _ hji, ← Act.put_comm a v u h2]
        exact hK

/-- The check: the operations 'is', one behind the other, each ready and apart from all that may run beside it; behind them g tail operations in forced order from n on. -/
def orderB (md : Region.Mode) (ops : Array Oper) (n g : Nat) : List Nat → Array Bool → Bool
  | [], listed => Region.seqB md ops g n listed
  | k :: is, listed => decide (k < n) && (Region.ready md ops listed).contains k && Region.free md ops listed k && orderB md ops n g is (listed.setIfInBounds k true)

theorem rAny_order {n g : Nat} {Lq : Act → Prop} (hsel : Region.noSelect ops = true) (Inv : Array Bool → Prop)
    (hinv : ∀ listed j, Inv listed → j ∈ Region.ready md ops listed → j < n → Inv (listed.setIfInBounds j true)) (htail : ∀ listed, Inv listed → TailWaits md ops n listed) :
    ∀ (is : List Nat) (l : List Oper) (listed : Array Bool) (a : Act), is.map (fun i => ops[i]?) = l.map some → Inv listed → orderB md ops n g is listed = true → rWalk P ops C Lq l a →
      rAny P md ops C n (fun listed' a' => Region.seqB md ops g n listed' = true ∧ Lq a') is.length listed a
  | [], [], listed, a, _, _, hB, h => ⟨hB, h⟩
  | [], _ :: _, _, _, hl, _, _, _ => by cases hl
  | _ :: _, [], _, _, hl, _, _, _ => by cases hl
  | k :: is, o :: l, listed, a, hl, inv, hB, h => by
    simp only [List.map_cons, List.cons.injEq] at hl
    obtain ⟨h0, hl⟩ := hl
    simp only [orderB, Bool.and_eq_true, decide_eq_true_eq] at hB
    obtain ⟨⟨⟨hkn, hr⟩, hf⟩, hB'⟩ := hB
    have hr' : k ∈ Region.ready md ops listed := by simpa using hr
    obtain ⟨v, hy, hK⟩ := rYields.of_walk h
    exact rAny_first h0 (Region.noSelect_spec hsel) hkn Inv hinv htail (fun listed' a' hL => seqB_ready hL.1) is.length listed a inv (Region.free_spec h0 hf) hr' hy
      (rAny_order hsel Inv hinv htail is l _ _ hl (hinv _ _ inv hr' hkn) hB' hK)

theorem Ext.trans {a b c : World} (h : Ext a b) (k : Ext b c) : Ext a c := ⟨Below.trans h.1 (Below.mono k.1 h.1.size), Nat.le_trans h.2 k.2⟩

/-- One operation that yields, in an actual world. -/
theorem wpOp_of_yields {i : Nat} {o : Oper} {v : Value} {a : Act} {K : Act → World → Prop} {Q : Exit → Act → World → Prop} {w : World} (hi : ops[i]? = some o) (hC : C w) (hy : rYields P ops C o v a)
    (h : ∀ w', Ext w w' → K (a.put o.dst v) w') : wpOp P ops Q i K a w := by
  have hrefl : Ext w w := ⟨Below.refl _ _, Nat.le_refl _⟩
  unfold wpOp
  simp only [hi]
  rcases hy with ⟨hw, hv⟩ | ⟨hw, rfl⟩
  · rw [if_pos hw]
    refine .inl ?_
    have h3 := hv w hC
    unfold rAt at h3
    unfold Oper.wp
    generalize (execOp a.eval o).run P w = r at *
    cases r with
    | ok n w' =>
      cases n <;> simp only [rUpon] at h3 <;> simp only [Oper.upon]
      case value u => obtain ⟨e1, e2⟩ := h3; rw [e1, e2]; exact h _ hrefl
      case skip => obtain ⟨e1, e2⟩ := h3; rw [e1, ← e2]; exact h _ hrefl
      case enter f args =>
        obtain ⟨e1, hc⟩ := h3
        rw [e1]
        exact hc.mono fun e w'' ⟨he, hw''⟩ => by subst he; exact h _ hw''
    | halt x w' => simp only [rUpon] at h3
  · rw [hw, if_neg (by simp)]
    exact h _ hrefl

/-- What is left of the head behind the new block (or without one), then the tail: D: the worlds met here. -/
theorem rAny_then_tail {n g : Nat} {Q : Exit → Act → World → Prop} {Lq : Act → Prop} {l : List Oper} {dst : Option Tmp} {u : Value} {D : World → Prop} (hsel : Region.noSelect ops = true)
    (hg : l.length = g) (hl : ∀ j, l[j]? = ops[n + j]?) (hD : ∀ w, D w → C w) (hDe : ∀ w w', D w → Ext w w' → D w')
    (J : Nat → Prop) (hap : ∀ i o, i < n → ¬ J i → ops[i]? = some o → (∀ d, dst = some d → d ∉ o.looksAt ops) ∧ (∀ d, dst = some d → o.dst ≠ some d))
    (hQ : ∀ a w, D w → Lq a → wpList P ops Q l (a.put dst u) w) :
    ∀ (f : Nat) (listed : Array Bool) (a : Act) (w : World), D w → (∀ i, J i → listed.getD i true = true) →
      rAny P md ops C n (fun listed' a' => Region.seqB md ops g n listed' = true ∧ Lq a') f listed a → wpAny P md ops Q (f + g) listed (a.put dst u) w
  | 0, listed, a, w, hw, _, h => by
    rw [Nat.zero_add]
    subst hg
    exact wpAny_of_seq l n listed _ w hl h.1 (hQ a w hw h.2)
  | f + 1, listed, a, w, hw, hJ, h => by
    rw [show f + 1 + g = (f + g) + 1 by omega]
    refine ⟨fun h0 => absurd h0 h.1, fun i hi => ?_⟩
    obtain ⟨hin, o, v, ho, hy, hK⟩ := h.2 i hi
    have hiun := (mem_ready.1 hi).1
    have hnJ : ¬ J i := fun hj => by rw [hJ i hj] at hiun; cases hiun
    obtain ⟨h1, h2⟩ := hap i o hin hnJ ho
    have hy' : rYields P ops C o v (a.put dst u) := hy.same (execOp_put o (fun cs b => Region.noSelect_spec hsel i o cs b ho) a dst u h1) (wanted_put o a dst u h1)
    refine wpOp_of_yields ho (hD w hw) hy' fun w' hw' => ?_
    rw [Act.put_comm a u v h2]
    refine rAny_then_tail hsel hg hl hD hDe J hap hQ f _ _ w' (hDe _ _ hw hw') (fun k hk => ?_) hK
    by_cases hik : i = k
    · subst hik; exact absurd hk hnJ
    · rw [getD_set_ne true hik]; exact hJ k hk

/-- The check for a region without a new block in its head. -/
def plainB (md : Region.Mode) (ops : Array Oper) (n : Nat) : Bool :=
  Region.noSelect ops && decide (n < ops.size) && Region.sinkB md ops n && Region.chainB md ops n && orderB md ops n (ops.size - n) (List.range n) (Array.replicate ops.size false)

theorem headInv0 {n : Nat} : HeadInv md ops n (Array.replicate ops.size false) :=
  ⟨by simp, fun j oj _ hl => (by rw [getD_replicate_false] at hl; cases hl), fun t _ ht => getD_in (by simpa using ht) (getD_replicate_false _ _)⟩

theorem wp_region_tail {id : Nat} {Q : Exit → Act → World → Prop} {a : Act} {w : World} {l : List Oper} (n : Nat) (hm : P.follows .mixedOrders = true) (hB : plainB .any l.toArray n = true)
    (hC : ∀ w', Below w.heap.size w w' → C w')
    (h : rWalk P l.toArray C (fun a' => ∀ w', Ext w w' → wpList P l.toArray Q (l.drop n) a' w') (l.take n) a) : (Code.region id l.toArray true).wp P Q a w := by
  simp only [plainB, Bool.and_eq_true, decide_eq_true_eq] at hB
  obtain ⟨⟨⟨⟨hsel, hn⟩, hs⟩, hc⟩, ho⟩ := hB
  have hn' : n < l.length := by simpa using hn
  have hmap : (List.range n).map (fun i => l.toArray[i]?) = (l.take n).map some := by
    apply List.ext_getElem?
    intro j
    simp only [List.getElem?_map, List.getElem?_take]
    by_cases hj : j < n
    · simp [hj, show j < l.length by omega]
    · simp [hj]
  have H := rAny_order (md := .any) (g := l.toArray.size - n) hsel (HeadInv .any l.toArray n) (fun listed j inv hj hjn => inv.set hj hjn) (fun listed inv i hi hun => tail_waits hs hc hn inv _ i rfl hi hun)
    (List.range n) (l.take n) _ a hmap headInv0 ho h
  refine wp_region_any hm ?_
  have := rAny_then_tail (md := .any) (Q := Q) (l := l.drop n) (dst := none) (u := undef) (D := fun w' => Ext w w') hsel (by simp) (fun j => by simp [List.getElem?_drop])
    (fun w' h => hC w' h.1) (fun a b ha hb => Ext.trans (a := w) ha hb) (fun _ => False) (fun i o _ _ _ => ⟨fun d hd => (by cases hd), fun d hd => (by cases hd)⟩)
    (fun a' w' hw' hl => hl w' hw') _ _ _ { w with drawn := w.drawn + 1 } ⟨⟨rfl, rfl, rfl, Nat.le_refl _, fun _ _ => rfl⟩, by simp⟩ (fun i hi => hi.elim) H
  rw [List.length_range, show n + (l.toArray.size - n) = l.toArray.size by omega] at this
  exact this

end
theorem toExt {P : Program} {f : FuncId} {args : Array Value} {v : Value} (c : ∀ w : World, Calls P f args w fun e w' => e = .returned v ∧ Ext w w') : ∀ w : World, Calls P f args w fun e w' => e = .returned v ∧ Ext w w' := c
theorem Ext.grown {w w' : World} (h : Ext w w') : ∃ q os, w' = grow (w.drewN q) os := by
  obtain ⟨p, hp⟩ := regrown_of_below h.1
  refine ⟨p.d - w.drawn, p.os, ?_⟩
  have h2 := h.2
  have e : w'.drawn = p.d := by rw [hp]; rfl
  rw [e] at h2
  rw [hp]
  have : redrawn w p.d = w.drewN (p.d - w.drawn) := by unfold redrawn World.drewN; congr 1; omega
  rw [this]
end Go.Proofs.Ytaegobkkcgheeaa.Dr
