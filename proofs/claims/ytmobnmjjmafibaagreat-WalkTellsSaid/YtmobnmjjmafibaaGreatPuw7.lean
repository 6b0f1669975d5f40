/- Put together: WalJ, WalK, WalL, FlowT, WalP, WalS, WalU, WalW, DocE, CdtG, CdtD, CdtF. -/
import Derived.Test.YtmobnmjjmafibaaGreatRows
import Derived.Test.YtmobnmjjmafibaaGreatPuw0
import Derived.Deep.AppendLies
import Derived.WalkKit
import Derived.WalkSpells
import Derived.WalkLawsBesides
import Derived.Laws.Externs
import Derived.Deep.QuietTactic
import Derived.BigQuiet
import Derived.Lib.Hide
import Derived.Handy
import Derived.OwnWalk
import Derived.LoopN
import Derived.RegionTactic
import Derived.Test.YtmobnmjjmafibaaGreatPuw5
import Derived.Shelf.Spec.SlicesInsert
import Derived.Lib.AppendZerosOnto
import Derived.Shelf.RegionOpenPlain
import Derived.Deep.RegionHeld3
import Derived.Test.YtmobnmjjmafibaaGreatPuw4
import Derived.Test.YtmobnmjjmafibaaGreatPuw6
import Derived.Maps.AppendAt
import Derived.Laws.AppendOwnNone
import Derived.Deep.Slices
import Derived.Maps.RangeWalk
set_option maxRecDepth 100000
set_option maxHeartbeats 8000000
namespace Go.Proofs.YtmobnmjjmafibaaGreat
open Go.RowKit Go.Sort Go.Lib
attribute [local go_sem] rOper rAt rUpon cell_set sg_i64 sg_u64 alloc_cell alloc_frozen
attribute [local go_sem 10000] pt_eql pt_neq wal_eql wal_neq
attribute [local irreducible] rWalk
def Fresh (v v' : Value) (n : Nat) : Prop := ∀ g, v'.ownBlock = some g → v.ownBlock = some g ∨ n ≤ g
def z5 : List Value := [.int .i64 0, .int .i64 0, .int .i64 0, .int .i64 0, .int .i64 0]
end Go.Proofs.YtmobnmjjmafibaaGreat
namespace Go.Proofs.YtmobnmjjmafibaaGreat
open Go.RowKit Go.Sort
attribute [local go_sem] rOper rAt rUpon cell_set sg_i64 sg_u64 alloc_cell alloc_frozen
attribute [local go_sem 10000] pt_eql pt_neq wal_eql wal_neq
attribute [local irreducible] rWalk
structure Frm (w w' : World) (p : Nat → Prop) : Prop where
 os : w'.os = w.os
 tape : w'.tape = w.tape
 output : w'.output = w.output
 size : w.heap.size ≤ w'.heap.size
 block : ∀ k, k < w.heap.size → ¬ p k → w'.heap[k]? = w.heap[k]?
theorem Frm.of_below {w w' : World} {p : Nat → Prop} (h : Below w.heap.size w w') : Frm w w' p := ⟨h.1, h.2, h.3, h.4, fun k hk _ => h.block k hk⟩
theorem Frm.of_grown {w w' : World} {p : Nat → Prop} {r : Option Nat} (h : w.grownBy w' r) (hr : ∀ g, r = some g → p g) : Frm w w' p := ⟨h.1, h.2, h.3, h.4, fun k hk hn => h.block k hk (fun e => hn (hr k e.symm))⟩
theorem Frm.trans {w w' w2 : World} {p : Nat → Prop} (h : Frm w w' p) (h2 : Frm w' w2 p) : Frm w w2 p := ⟨h2.os.trans h.os, h2.tape.trans h.tape, h2.output.trans h.output, Nat.le_trans h.size h2.size, fun k hk hn => (h2.block k (Nat.lt_of_lt_of_le hk h.size) hn).trans (h.block k hk hn)⟩
theorem Frm.trans2 {w w' w2 : World} {p q : Nat → Prop} (h : Frm w w' p) (h2 : Frm w' w2 q) (hq : ∀ k, q k → k < w.heap.size → p k) : Frm w w2 p := ⟨h2.os.trans h.os, h2.tape.trans h.tape, h2.output.trans h.output, Nat.le_trans h.size h2.size, fun k hk hn => (h2.block k (Nat.lt_of_lt_of_le hk h.size) (fun hh => hn (hq k hh hk))).trans (h.block k hk hn)⟩
theorem Frm.setCell {w w' : World} {p : Nat → Prop} (h : Frm w w' p) (q : Addr) (hq : p q.block) (v : Value) : Frm w (w'.setCell q v) p :=
 ⟨h.os, h.tape, h.output, by simpa using h.size, fun k hk hn => by
  have hne : ¬ q.block = k := fun e => hn (e ▸ hq);simp only [World.setCell, Array.getElem?_modify, if_neg hne];exact h.block k hk hn⟩
theorem Frm.below {w w' : World} {p : Nat → Prop} {n : Nat} (h : Frm w w' p) (hp : ∀ k, p k → n ≤ k) (hn : n ≤ w.heap.size) : Below n w w' := ⟨h.os, h.tape, h.output, h.size, fun k hk => h.block k (by omega) (fun e => by have := hp k e; omega)⟩
theorem Frm.box {w w' : World} {p : Nat → Prop} {b : Nat} {cs : List Value} {T : TypeId} (h : Frm w w' p) (hb : Box w b cs T) (hn : ¬ p b) : Box w' b cs T := by
 have hl := hb.lt;unfold Box at *;rw [h.block b hl hn]; exact hb
theorem Frm.row {w w' : World} {p : Nat → Prop} {B : Nat} {v : Value} {L : List Wl} (h : Frm w w' p) (hr : WRow w B v L) (hn : ∀ g, v.ownBlock = some g → ¬ p g) : WRow w' B v L := by
 refine ⟨hr.1, ?_⟩;rcases hr.2 with h' | ⟨g, cap, cur, h0, h1, h2, h3⟩
 ·exact .inl h'
 ·refine .inr ⟨g, cap, cur, h0, h1, ?_, h3⟩;have hl : g < w.heap.size := (Array.getElem?_eq_some_iff.1 h2).1;rw [h.block g hl (hn g (by rw [h0]; rfl))]; exact h2
structure SetAt (w : World) (sb : Nat) (v : Value) (L : List Wl) : Prop where
 box : Box w sb [v] 151
 row : WRow w 0 v L
 ne : v.ownBlock ≠ some sb
 le : L.length ≤ 1000000
 ris : Ris L
 good : ∀ x ∈ L, GoodW x
theorem SetAt.rd {w : World} {sb : Nat} {v : Value} {L : List Wl} (S : SetAt w sb v L) : ∃ a c, v = .slice a L.length c ∧ SetRd w sb a c L.length L := by
 obtain ⟨a, c, h1, h2, h3⟩ := S.row.row;refine ⟨a, c, h1, h1 ▸ S.box, h2, rfl, S.le, ?_, h3, fun e => ?_, S.ris, S.good⟩
 ·rcases S.row.box with ⟨e, e2⟩ | ⟨_, _, _, e, _, _, h, _⟩
  ·rw [e2]; exact Nat.zero_le _
  ·rw [h1] at e; simp only [Value.slice.injEq] at e; omega
 ·rcases S.row.box with ⟨_, e2⟩ | ⟨_, _, _, e2, _⟩
  ·exact e2
  ·rw [h1, e] at e2; simp at e2
theorem WRow.drew {w : World} {B : Nat} {v : Value} {L : List Wl} (h : WRow w B v L) : WRow w.drew B v L := h
theorem WRow.form {w : World} {B : Nat} {v : Value} {L : List Wl} (h : WRow w B v L) : ∃ a n c, v = .slice a n c := by
 obtain ⟨a, c, h1, _⟩ := h.row;exact ⟨a, _, c, h1⟩
theorem SetAt.keep {w w' : World} {sb : Nat} {v : Value} {L : List Wl} {p : Nat → Prop} (S : SetAt w sb v L) (h : Frm w w' p) (h1 : ¬ p sb) (h2 : ∀ g, v.ownBlock = some g → ¬ p g) : SetAt w' sb v L :=
 ⟨h.box S.box h1, h.row S.row h2, S.ne, S.le, S.ris, S.good⟩
theorem SetAt.ext {w w' : World} {sb : Nat} {v : Value} {L : List Wl} {n : Nat} (S : SetAt w sb v L) (hb : Below n w w') (hn : n = w.heap.size) : SetAt w' sb v L :=
 ⟨S.box.ext hb hn, S.row.ext hb hn, S.ne, S.le, S.ris, S.good⟩
theorem SetAt.ee {w w' : World} {sb : Nat} {v : Value} {L : List Wl} (S : SetAt w sb v L) (hb : Below w.heap.size w w') : SetAt w' sb v L := S.ext hb rfl
theorem Frm.refl (w : World) (p : Nat → Prop) : Frm w w p := ⟨rfl, rfl, rfl, Nat.le_refl _, fun _ _ _ => rfl⟩
end Go.Proofs.YtmobnmjjmafibaaGreat
namespace Go.Proofs.YtmobnmjjmafibaaGreat.FT
open Go.RowKit Go.Sort
section
variable {P : Program} {ops : Array Oper} {md : Region.Mode} {Q : Exit → Act → World → Prop} {n : Nat}
inductive Plan where
 | run (i : Nat) (rest : Plan)
 | alt (h : Nat) (after other : Plan)
 | stop
 | tail
def flow (P : Program) (ops : Array Oper) (n : Nat) (Q : Exit → Act → World → Prop) : Plan → (World → Prop) → Act → World → Prop
 | .run i rest, C, a, w => ∃ o, ops[i]? = some o ∧ if Region.wanted o (yielded ops a.tmps) then rOper P o a C (fun a' => flow P ops n Q rest C a' w) else flow P ops n Q rest C (a.put o.dst undef) w
 | .alt h after other, C, a, w => (∃ o, ops[h]? = some o ∧ ∀ w', Ext w w' → if Region.wanted o (yielded ops a.tmps) then
       o.wp P a w' (fun a' w2 => ∃ C' : World → Prop, (∀ x, C' x → C x) ∧ (∀ x y, Ext x y → C' x → C' y) ∧ C' w2 ∧ flow P ops n Q after C' a' w2) Q
     else ∃ C' : World → Prop, (∀ x, C' x → C x) ∧ (∀ x y, Ext x y → C' x → C' y) ∧ C' w' ∧ flow P ops n Q after C' (a.put o.dst undef) w') ∧ flow P ops n Q other C a w
 | .stop, _, _, _ => True
 | .tail, _, a, w => ∀ w', Ext w w' → wpList P ops Q (ops.toList.drop n) a w'
theorem flow_run {i : Nat} {rest : Plan} {C : World → Prop} {a : Act} {w : World} {o : Oper} (ho : ops[i]? = some o)
    (h : ∀ K : Act → Prop, (∀ a, flow P ops n Q rest C a w → K a) → if Region.wanted o (yielded ops a.tmps) then rOper P o a C K else K (a.put o.dst undef)) : flow P ops n Q (.run i rest) C a w :=
 ⟨o, ho, h _ (fun _ h => h)⟩
def Plan.runs : Plan → List Nat
 | .run i r => i :: r.runs
 | _ => []
def Plan.drop (i : Nat) : Plan → Plan
 | .run j r => if j = i then r else .run j (r.drop i)
 | p => p
def Plan.goto (h : Nat) : Plan → Plan
 | .run j r => .run j (r.goto h)
 | .alt k a o => if k = h then a else o.goto h
 | p => p
def planB (md : Region.Mode) (n : Nat) (ops : Array Oper) : List Nat → Plan → Array Bool → Bool
 | seen, .run i r, l => decide (i < n) && seen.isEmpty && (Region.ready md ops l).contains i && Region.free md ops l i && planB md n ops [] r (l.setIfInBounds i true)
 | seen, .alt h a o, l => decide (h < n) && (Region.ready md ops l).contains h && planB md n ops [] a (l.setIfInBounds h true) && planB md n ops (h :: seen) o l
 | seen, .stop, l => !seen.isEmpty && (Region.ready md ops l).all seen.contains
 | seen, .tail, l => seen.isEmpty && Region.seqB md ops (ops.size - n) n l
theorem zIl {l : Array Bool} {i j : Nat} (h : Region.free md ops l j = true) : Region.free md ops (l.setIfInBounds i true) j = true := by
 unfold Region.free at *;cases ho : ops[j]? with
 | none => rw [ho] at h; cases h
 | some oj =>
  rw [ho] at h;simp only [List.all_eq_true, List.mem_range, Bool.or_eq_true, beq_iff_eq] at h ⊢;intro k hk;rcases h k hk with (h1 | h1) | h1
  ·exact .inl (.inl h1)
  ·by_cases hik : i = k
   ·subst hik;refine .inl (.inr ?_);rcases Nat.lt_or_ge i l.size with h' | h'
    ·simp [h']
    ·simp [h']
   ·exact .inl (.inr (by rw [getD_set_ne true hik]; exact h1))
  ·exact .inr h1
theorem zKa {l : Array Bool} {i j : Nat} {oi oj : Oper} (hj : ops[j]? = some oj) (hf : Region.free md ops l j = true) (hji : j ≠ i) (hun : l.getD j true = false) (hi : ops[i]? = some oi) (hr : i ∈ Region.ready md ops l) : oj.apart ops oi = true := by
 obtain ⟨h0, o, ho, hall⟩ := mem_ready.1 hr;have : o = oi := Option.some.inj (ho.symm.trans hi);subst this;refine Region.free_spec hj hf i o hi (Ne.symm hji) h0 fun e he hb heq => ?_;have h1 := hall e he hb;rw [heq, getD_both hun] at h1;cases h1
theorem wpOp_putR {C : World → Prop} {j : Nat} {oi oj : Oper} {v : Value} (hj : ops[j]? = some oj) (hap : oi.apart ops oj = true) (hsi : ∀ cs b, oi.op ≠ .select cs b) (hsj : ∀ cs b, oj.op ≠ .select cs b)
    (hQ : ∀ c x v a w, Q (.panic c) (Act.put a x v) w → Q (.panic c) a w) {K : Act → World → Prop} {a : Act} {w : World} (hy : rYields P ops C oi v a) (h : wpOp P ops Q j K (a.put oi.dst v) w) :
    wpOp P ops Q j (fun a' w' => rYields P ops C oi v a' ∧ K (a'.put oi.dst v) w') a w := by
 obtain ⟨g1, g2, g3⟩ := Oper.apart_spec hap;have e1 := execOp_put (ops := ops) oj hsj a oi.dst v g1;have e2 := wanted_put oj a oi.dst v g1;have kp : ∀ b u, rYields P ops C oi v b → rYields P ops C oi v (b.put oj.dst u) := fun b u hb => hb.same (execOp_put (ops := ops) oi hsi b oj.dst u g3) (wanted_put oi b oj.dst u g3);have kd : ∀ d, rYields P ops C oi v { a with defers := d :: a.defers } := fun d => hy.same rfl rfl;have cm : ∀ (b : Act) u, (b.put oi.dst v).put oj.dst u = (b.put oj.dst u).put oi.dst v := fun b u => Act.put_comm b v u g2;unfold wpOp at h ⊢;simp only [hj, e2] at h ⊢;cases hw : Region.wanted oj (yielded ops a.tmps) with
 | false =>
  simp only [hw, Bool.false_eq_true, if_false] at h ⊢;exact ⟨kp a _ hy, by rw [← cm]; exact h⟩
 | true =>
  simp only [hw, if_true] at h ⊢;rcases h with h | ⟨h, hl⟩
  ·left
   unfold Oper.wp at h ⊢;rw [e1] at h;generalize (execOp a.eval oj).run P w = r at h ⊢
   cases r with
   | halt x w' => cases x <;> first | exact hQ _ _ _ _ _ h | exact h
   | ok n w' =>
    cases n <;> simp only [Oper.upon] at h ⊢
    case value u => exact ⟨kp a u hy, by rw [← cm]; exact h⟩
    case skip => exact ⟨kp a _ hy, by rw [← cm]; exact h⟩
    case defer d => exact ⟨kp _ _ (kd d), by rw [← cm, ← Act.put_defers]; exact h⟩
    case enter f args =>
     refine Calls.mono h fun e w2 he => ?_;cases e with
     | returned u => exact ⟨kp a u hy, by rw [← cm]; exact he⟩
     | panicked c => exact hQ _ _ _ _ _ he
     | outgrown => exact he
    case row row args => exact Rows.mono h fun u w2 he => ⟨kp a u hy, by rw [← cm]; exact he⟩
  ·right
   exact ⟨by unfold Oper.asks at h ⊢; rw [e1] at h; exact h, hl⟩
theorem rYields.sub {C C' : World → Prop} {o : Oper} {v : Value} {a : Act} (h : rYields P ops C o v a) (hs : ∀ x, C' x → C x) : rYields P ops C' o v a :=
 h.imp (fun ⟨h1, h2⟩ => ⟨h1, fun w hw => h2 w (hs w hw)⟩) id
theorem zDq {i : Nat} {o : Oper} {rest : Plan} {C : World → Prop} {v : Value} {a : Act} {w : World} (ho : ops[i]? = some o) (hy : rYields P ops C o v a) (h : flow P ops n Q rest C (a.put o.dst v) w) : flow P ops n Q (.run i rest) C a w := by
 refine ⟨o, ho, ?_⟩;rcases hy with ⟨h1, h2⟩ | ⟨h1, rfl⟩
 ·rw [if_pos h1]; exact ⟨v, h2, h⟩
 ·rw [if_neg (by rw [h1]; simp)]; exact h
theorem zDi {i : Nat} {rest : Plan} {C : World → Prop} {a : Act} {w : World} (h : flow P ops n Q (.run i rest) C a w) : ∃ o v, ops[i]? = some o ∧ rYields P ops C o v a ∧ flow P ops n Q rest C (a.put o.dst v) w := by
 obtain ⟨o, ho, h⟩ := h;cases hw : Region.wanted o (yielded ops a.tmps) with
 | true =>
  rw [if_pos hw] at h;obtain ⟨v, h1, h2⟩ := h;exact ⟨o, v, ho, .inl ⟨hw, h1⟩, h2⟩
 | false =>
  rw [if_neg (by rw [hw]; simp)] at h;exact ⟨o, undef, ho, .inr ⟨hw, rfl⟩, h⟩
theorem zIn (hsel : Region.noSelect ops = true) {C : World → Prop} {i : Nat} {w : World} : ∀ (pl : Plan) (l : Array Bool) (a : Act), planB md n ops [] pl l = true → i ∈ Region.ready md ops l → i ∈ pl.runs → flow P ops n Q pl C a w →
    ∃ o v, ops[i]? = some o ∧ rYields P ops C o v a ∧ flow P ops n Q (pl.drop i) C (a.put o.dst v) w ∧ planB md n ops [] (pl.drop i) (l.setIfInBounds i true) = true
 | .run j r, l, a, hB, hr, hm, hf => by
  simp only [planB, Bool.and_eq_true, List.isEmpty_nil, and_true] at hB;obtain ⟨⟨⟨hjn, hjr⟩, hfr⟩, hB⟩ := hB;have hjr' : j ∈ Region.ready md ops l := by simpa using hjr
  obtain ⟨oj, u, hoj, hyj, hf⟩ := zDi hf;by_cases hji : j = i
  ·subst hji;simp only [Plan.drop, if_true];exact ⟨oj, u, hoj, hyj, hf, hB⟩
  ·have hm' : i ∈ r.runs := by
     simp only [Plan.runs, List.mem_cons] at hm;rcases hm with hm | hm
     ·exact absurd hm.symm hji
     ·exact hm
   obtain ⟨oi, v, hoi, hyi, hfi, hBi⟩ := zIn hsel r _ _ hB (ready_mono hr (Ne.symm hji)) hm' hf;obtain ⟨g1, g2, g3⟩ := Oper.apart_spec (zKa hoj hfr hji (mem_ready.1 hjr').1 hoi hr);have s := fun k o (ho : ops[k]? = some o) cs b => Region.noSelect_spec hsel k o cs b ho;have hyi' : rYields P ops C oi v a := hyi.same (execOp_put (ops := ops) oi (s i oi hoi) a oj.dst u g1).symm (wanted_put oi a oj.dst u g1).symm;have hyj' : rYields P ops C oj u (a.put oi.dst v) := hyj.same (execOp_put (ops := ops) oj (s j oj hoj) a oi.dst v g3) (wanted_put oj a oi.dst v g3);refine ⟨oi, v, hoi, hyi', ?_, ?_⟩
   ·simp only [Plan.drop, if_neg hji];refine zDq hoj hyj' ?_;rw [← Act.put_comm a u v g2];exact hfi
   ·simp only [Plan.drop, if_neg hji, planB, Bool.and_eq_true, List.isEmpty_nil, and_true];refine ⟨⟨⟨hjn, by simpa using ready_mono hjr' hji⟩, zIl hfr⟩, ?_⟩;rw [Array.setIfInBounds_comm _ _ (Ne.symm hji)];exact hBi
 | .alt _ _ _, _, _, _, _, hm, _ => by cases hm
 | .stop, _, _, _, _, hm, _ => by cases hm
 | .tail, _, _, _, _, hm, _ => by cases hm
theorem zEj (hsel : Region.noSelect ops = true) (hQ : ∀ c x v a w, Q (.panic c) (Act.put a x v) w → Q (.panic c) a w) {C : World → Prop} {i : Nat} {w0 w : World} (hw : Ext w0 w) : ∀ (pl : Plan) (seen : List Nat) (l : Array Bool) (a : Act), planB md n ops seen pl l = true → i ∈ Region.ready md ops l →
    i ∉ pl.runs → i ∉ seen → i < n → flow P ops n Q pl C a w0 →
    wpOp P ops Q i (fun a' w' => ∃ C' : World → Prop, (∀ x, C' x → C x) ∧ (∀ x y, Ext x y → C' x → C' y) ∧ C' w' ∧ flow P ops n Q (pl.goto i) C' a' w') a w ∧ planB md n ops [] (pl.goto i) (l.setIfInBounds i true) = true
 | .run j r, seen, l, a, hB, hr, hm, _, hin, hf => by
  simp only [planB, Bool.and_eq_true] at hB;obtain ⟨⟨⟨⟨hjn, _⟩, hjr⟩, hfr⟩, hB⟩ := hB;have hjr' : j ∈ Region.ready md ops l := by simpa using hjr
  have hji : j ≠ i := fun e => hm (by rw [e]; exact List.mem_cons_self);obtain ⟨oj, u, hoj, hyj, hf⟩ := zDi hf;obtain ⟨h1, h2⟩ := zEj hsel hQ hw r [] _ _ hB (ready_mono hr (Ne.symm hji)) (fun h => hm (List.mem_cons_of_mem _ h)) (by simp) hin hf;obtain ⟨_, oi, hoi, _⟩ := mem_ready.1 hr;have s := fun k o (ho : ops[k]? = some o) cs b => Region.noSelect_spec hsel k o cs b ho;have hap := zKa hoj hfr hji (mem_ready.1 hjr').1 hoi hr;refine ⟨wpOp_mono (fun a' w' h => ?_) (wpOp_putR hoi hap (s j oj hoj) (s i oi hoi) hQ hyj h1), ?_⟩
  ·obtain ⟨hy, C', hs, hc, hC, hf⟩ := h;exact ⟨C', hs, hc, hC, zDq hoj (rYields.sub hy hs) hf⟩
  ·simp only [Plan.goto, planB, Bool.and_eq_true, List.isEmpty_nil, and_true];refine ⟨⟨⟨hjn, by simpa using ready_mono hjr' hji⟩, zIl hfr⟩, ?_⟩;rw [Array.setIfInBounds_comm _ _ (Ne.symm hji)];exact h2
 | .alt k a2 o, seen, l, a, hB, hr, hm, hs, hin, hf => by
  simp only [planB, Bool.and_eq_true] at hB;obtain ⟨⟨⟨_, _⟩, hB1⟩, hB2⟩ := hB;obtain ⟨⟨ok, hok, h1⟩, h2⟩ := hf;by_cases hki : k = i
  ·subst hki;simp only [Plan.goto, if_true];refine ⟨?_, hB1⟩;have := h1 w hw;unfold wpOp;simp only [hok];split
   ·rename_i hwt; rw [if_pos hwt] at this; exact .inl this
   ·rename_i hwt; rw [if_neg hwt] at this; exact this
  ·simp only [Plan.goto, if_neg hki];have hs' : i ∉ k :: seen := fun h => by
    rcases List.mem_cons.1 h with h | h
    ·exact hki h.symm
    ·exact hs h
   cases o with
   | run j r => simp [planB] at hB2
   | alt k2 a3 o2 => exact zEj hsel hQ hw (.alt k2 a3 o2) _ _ _ hB2 hr (by simp [Plan.runs]) hs' hin h2
   | stop => exact zEj hsel hQ hw .stop _ _ _ hB2 hr (by simp [Plan.runs]) hs' hin h2
   | tail => simp [planB] at hB2
 | .stop, seen, l, a, hB, hr, _, hs, _, _ => by
  simp only [planB, Bool.and_eq_true] at hB;have := List.all_eq_true.1 hB.2 i hr;exact absurd (by simpa using this) hs
 | .tail, seen, l, a, hB, hr, _, hs, hin, _ => by
  simp only [planB, Bool.and_eq_true] at hB;have := seqB_ready hB.2 i hr;omega
def undone (n : Nat) (l : Array Bool) : Nat := ((List.range n).filter fun i => !l.getD i true).length
theorem zFo {p q : Nat → Bool} {x : Nat} : ∀ {l : List Nat}, (∀ y, q y = true → p y = true) → x ∈ l → p x = true → q x = false → (l.filter q).length < (l.filter p).length
 | [], _, hx, _, _ => by cases hx
 | y :: l, h, hx, hp, hq => by
  have le : ∀ l : List Nat, (l.filter q).length ≤ (l.filter p).length := fun l => by
   induction l with
   | nil => simp
   | cons z l ih =>
    cases hz : q z with
    | true => rw [List.filter_cons_of_pos hz, List.filter_cons_of_pos (h z hz)]; simpa using ih
    | false =>
     rw [List.filter_cons_of_neg (by rw [hz]; simp)];cases hz2 : p z with
     | true => rw [List.filter_cons_of_pos hz2, List.length_cons]; omega
     | false => rw [List.filter_cons_of_neg (by rw [hz2]; simp)]; exact ih
  rcases List.mem_cons.1 hx with rfl | hx
  ·rw [List.filter_cons_of_pos hp, List.filter_cons_of_neg (by rw [hq]; simp), List.length_cons];have := le l; omega
  ·have ih := zFo h hx hp hq;cases hz : q y with
   | true => rw [List.filter_cons_of_pos hz, List.filter_cons_of_pos (h y hz)]; simpa using ih
   | false =>
    rw [List.filter_cons_of_neg (by rw [hz]; simp)];cases hz2 : p y with
    | true => rw [List.filter_cons_of_pos hz2, List.length_cons]; omega
    | false => rw [List.filter_cons_of_neg (by rw [hz2]; simp)]; exact ih
theorem undone_set {l : Array Bool} {i : Nat} (hi : i < n) (hs : l.size = ops.size) (hi2 : i < ops.size) (hu : l.getD i true = false) : undone n (l.setIfInBounds i true) < undone n l := by
 refine zFo (x := i) (fun y hy => ?_) (List.mem_range.2 hi) (by rw [hu]; rfl) (by simp [hs, hi2]);by_cases hiy : i = y
 ·subst hiy; rw [hu]; rfl
 ·rw [getD_set_ne true hiy] at hy; exact hy
theorem zGr : ∀ (f : Nat) (l : Array Bool) (a : Act) (w : World), wpAny P md ops Q f l a w → wpAny P md ops Q (f + 1) l a w
 | 0, l, a, w, h => ⟨fun _ => h.2, fun i hi => by rw [h.1] at hi; cases hi⟩
 | f + 1, l, a, w, h => ⟨h.1, fun i hi => wpOp_mono (fun a' w' h' => zGr f _ a' w' h') (h.2 i hi)⟩
theorem wpAny_le {f g : Nat} (hfg : f ≤ g) {l : Array Bool} {a : Act} {w : World} (h : wpAny P md ops Q f l a w) : wpAny P md ops Q g l a w := by
 induction hfg with
 | refl => exact h
 | step _ ih => exact zGr _ _ _ _ ih
theorem flow_sound (hsel : Region.noSelect ops = true) (hn : n < ops.size) (hsk : Region.sinkB md ops n = true) (hch : Region.chainB md ops n = true) (hQ : ∀ c x v a w, Q (.panic c) (Act.put a x v) w → Q (.panic c) a w) : ∀ (f : Nat) (pl : Plan) (C : World → Prop) (l : Array Bool) (a : Act) (w0 w : World),
    planB md n ops [] pl l = true → HeadInv md ops n l → undone n l + (ops.size - n) ≤ f → (∀ x y, Ext x y → C x → C y) → C w → Ext w0 w → flow P ops n Q pl C a w0 → wpAny P md ops Q f l a w := by
 intro f;induction f with
 | zero => intro pl C l a w0 w hB hs hu _ _ hw hf; omega
 | succ f ih =>
  intro pl C l a w0 w hB inv hu hc hC hw hf;by_cases hnt : pl = .tail
  ·subst hnt;simp only [planB, Bool.and_eq_true, List.isEmpty_nil, true_and] at hB;have hl : (ops.toList.drop n).length = ops.size - n := by simp
   refine wpAny_le (f := ops.size - n) (by omega) ?_;rw [← hl];exact wpAny_of_seq _ n l a w (fun j => by simp [List.getElem?_drop]) (by rw [hl]; exact hB) (hf w hw)
  have hne : Region.ready md ops l ≠ [] := fun hr => by
   cases pl with
   | run i r => simp [planB, hr] at hB
   | alt h a2 o => simp [planB, hr] at hB
   | stop => simp [planB] at hB
   | tail => exact hnt rfl
  refine ⟨fun hr => absurd hr hne, fun i hi => ?_⟩;obtain ⟨h0, o, ho, _⟩ := mem_ready.1 hi;have hisz := (Array.getElem?_eq_some_iff.1 ho).1;rcases Nat.lt_or_ge i n with hin | hin
  ·have hlt := undone_set (ops := ops) hin inv.size hisz h0;by_cases hm : i ∈ pl.runs
   ·obtain ⟨oi, v, hoi, hy, hf2, hB2⟩ := zIn hsel pl l a hB hi hm hf;exact zAy hoi hC hy fun w' hw' => ih _ C _ _ w0 w' hB2 (inv.set hi hin) (by omega) hc (hc _ _ hw' hC) (Ext.trans hw hw') hf2
   ·obtain ⟨h1, hB2⟩ := zEj hsel hQ hw pl [] l a hB hi hm (by simp) hin hf;refine wpOp_mono (fun a' w' h => ?_) h1;obtain ⟨C', _, hc', hC', hf2⟩ := h;exact ih _ C' _ _ w' w' hB2 (inv.set hi hin) (by omega) hc' hC' (Below.refl _ _) hf2
  ·exfalso
   have hdone : ∀ j, j < n → l.getD j true = true := fun j hj => by
    cases h : l.getD j true with
    | true => rfl
    | false => exact absurd hi (tail_waits hsk hch hn inv _ j rfl hj h i hin)
   cases pl with
   | run j r =>
    simp only [planB, Bool.and_eq_true, decide_eq_true_eq] at hB;have h1 : j ∈ Region.ready md ops l := by simpa using hB.1.1.2
    have := (mem_ready.1 h1).1;rw [hdone j hB.1.1.1.1] at this; cases this
   | alt h a2 o =>
    simp only [planB, Bool.and_eq_true, decide_eq_true_eq] at hB;have h1 : h ∈ Region.ready md ops l := by simpa using hB.1.1.2
    have := (mem_ready.1 h1).1;rw [hdone h hB.1.1.1] at this; cases this
   | stop => simp [planB] at hB
   | tail => exact hnt rfl
theorem wp_region_flow {id : Nat} {a : Act} {w : World} {l : List Oper} (n : Nat) (pl : Plan) (hm : P.follows .mixedOrders = true) (hB : (Region.noSelect l.toArray && decide (n < l.toArray.size) && Region.sinkB .any l.toArray n && Region.chainB .any l.toArray n && planB .any n l.toArray [] pl (Array.replicate l.toArray.size false)) = true)
    (hQ : ∀ c x v a w, Q (.panic c) (Act.put a x v) w → Q (.panic c) a w) {C : World → Prop} (hC : ∀ w', Below w.heap.size w w' → C w') (hc : ∀ w', C w' → Below w.heap.size w w') (h : flow P l.toArray n Q pl C a w) : (Code.region id l.toArray true).wp P Q a w := by
 simp only [Bool.and_eq_true, decide_eq_true_eq] at hB;obtain ⟨⟨⟨⟨h1, h2⟩, h3⟩, h4⟩, h5⟩ := hB;refine wp_region_any hm ?_;have hx : Ext w { w with drawn := w.drawn + 1 } := ⟨rfl, rfl, rfl, Nat.le_refl _, fun _ _ => rfl⟩;exact flow_sound h1 h2 h3 h4 hQ _ pl C _ a w _ h5 headInv0 (by
  have := List.length_filter_le (fun i => !(Array.replicate l.toArray.size false).getD i true) (List.range n);rw [List.length_range] at this;unfold undone;omega) (fun x y hxy hx => hC _ (Ext.trans (a := w) (hc _ hx) hxy)) (hC _ hx) hx h
theorem flow_at {k : Nat} {after other : Plan} {C : World → Prop} {a : Act} {w : World} {o : Oper} (hC : ∀ x y, Ext x y → C x → C y) (ho : ops[k]? = some o) (h2 : flow P ops n Q other C a w)
    (h : ∀ w', Ext w w' → ∀ K : Act → World → Prop, (∀ a' w2, C w2 → flow P ops n Q after C a' w2 → K a' w2) → if Region.wanted o (yielded ops a.tmps) then o.wp P a w' K Q else K (a.put o.dst undef) w') : flow P ops n Q (.alt k after other) C a w :=
 ⟨⟨o, ho, fun w' hw' => h w' hw' _ fun _ _ h1 h2 => ⟨C, fun _ h => h, hC, h1, h2⟩⟩, h2⟩
end
end Go.Proofs.YtmobnmjjmafibaaGreat.FT
namespace Go.Proofs.YtmobnmjjmafibaaGreat
open Go.RowKit Go.Sort Go.Lib
attribute [local go_sem] rOper rAt rUpon cell_set sg_i64 sg_u64 alloc_cell alloc_frozen
attribute [local go_sem 10000] pt_eql pt_neq wal_eql wal_neq
attribute [local irreducible] rWalk
def PredFrm (g : Nat) (lb : Array Value) (p : Wl → Bool) (w : World) (b : Nat) : Prop :=
 ∀ (W : World) (x : Wl), Frm w W (· = b) → Calls Tryz.prog g (#[.agg (cW x).toArray] ++ lb) W fun e w' => e = .returned (.bool (p x)) ∧ Below W.heap.size W w'
theorem PredFrm.below {g : Nat} {lb : Array Value} {p : Wl → Bool} {w : World} {b : Nat} (h : PredFrm g lb p w b) : PredBelow Tryz.prog g lb (fun x => .agg (cW x).toArray) p w := fun W x hb =>
 (h W x (Frm.of_below hb)).mono fun _ _ ⟨he, hx⟩ => ⟨he, (upB hb hx)⟩
end Go.Proofs.YtmobnmjjmafibaaGreat
namespace Go.Proofs.YtmobnmjjmafibaaGreat
open Go.RowKit Go.Sort Go.Lib
theorem zD1 {w : World} {b : Nat} {L : List Wl} (h : Box w b (L.flatMap cW) 105) : RowAt cW 5 w (some ⟨b, 0, none⟩) L := fun j x hj => by
 have hl := List.getElem?_eq_some_iff.1 hj;refine ⟨_, rfl, h.lt, fun i u hu => ?_⟩;have hi : i < 5 := (List.getElem?_eq_some_iff.1 hu).1;rw [Addr.add_lit, Addr.add_lit, h.f.1, Nat.zero_add, zBm zHu L j i x hj hi];exact hu
theorem zE3 (b o : Nat) : Flat (some ⟨b, o, none⟩) := fun ad e => by cases e; rfl
theorem SetAt.alloc {w : World} {sb : Nat} {v : Value} {L : List Wl} (S : SetAt w sb v L) (o : Obj) : SetAt (w.alloc o) sb v L := S.ext ((Below.refl _ w).alloc (Nat.le_refl _) o) rfl
def pA : Pt := ⟨0, 0⟩
def pB : Pt := ⟨2, 0⟩
def pM : Pt := ⟨1, 0⟩
end Go.Proofs.YtmobnmjjmafibaaGreat
namespace Go.Proofs.YtmobnmjjmafibaaGreat
section
variable {a : Pt} {x y k i : Int}
def pI (a : Pt) (x y i : Int) : Pt := ⟨a.x + i * x, a.y + i * y⟩
end
open Go.RowKit Go.Sort
attribute [local go_sem] rOper rAt rUpon cell_set sg_i64 sg_u64 alloc_cell alloc_frozen
attribute [local go_sem 10000] pt_eql pt_neq wal_eql wal_neq
attribute [local irreducible] rWalk
theorem rcmpW_0 (S T : Wl) (h0 : ¬ cmpP S.A T.A = 0) (w : World) :
    Calls Tryz.prog 110 #[.agg #[.int .i64 S.A.x, .int .i64 S.A.y, .int .i64 S.B.x, .int .i64 S.B.y, .int .i64 S.K], .agg #[.int .i64 T.A.x, .int .i64 T.A.y, .int .i64 T.B.x, .int .i64 T.B.y, .int .i64 T.K]] w fun e w' => e = .returned (.int .i64 (cmpP S.A T.A)) ∧ Below w.heap.size w w' := by
 have c1 := zAb S.A T.A;have hd : (cmpP S.A T.A == 0) = false := by simpa using h0
 clear h0;generalize cmpP S.A T.A = n at *
 go_enter Tryz.func110, Tryz.ntmps110
 go_wp2_with fail;refine zA1 fun W1 hW => ?_;obtain ⟨Bs, Bt, hw⟩ := N2 hW;clear hW;refine (c1 _).mono ?_;rintro e w2 ⟨rfl, hb⟩;obtain ⟨Bs, Bt, hw, F_st⟩ := X2 Bs Bt hw hb;clear hb;go_wp2
 go_ret
 exact ⟨rfl, by have hl := hw.size; go_grown⟩
theorem rcmpW_1 (S T : Wl) (h0 : cmpP S.A T.A = 0) (h1 : ¬ cmpP S.B T.B = 0) (w : World) :
    Calls Tryz.prog 110 #[.agg #[.int .i64 S.A.x, .int .i64 S.A.y, .int .i64 S.B.x, .int .i64 S.B.y, .int .i64 S.K], .agg #[.int .i64 T.A.x, .int .i64 T.A.y, .int .i64 T.B.x, .int .i64 T.B.y, .int .i64 T.K]] w fun e w' => e = .returned (.int .i64 (cmpP S.B T.B)) ∧ Below w.heap.size w w' := by
 have c1 := zAb S.A T.A;have c2 := zAb S.B T.B;rw [h0] at c1;have hd : (cmpP S.B T.B == 0) = false := by simpa using h1
 clear h0 h1;generalize cmpP S.B T.B = n at *
 go_enter Tryz.func110, Tryz.ntmps110
 go_wp2_with fail;refine zA1 fun W1 hW => ?_;obtain ⟨Bs, Bt, hw⟩ := N2 hW;clear hW;refine (c1 _).mono ?_;rintro e w2 ⟨rfl, hb⟩;obtain ⟨Bs, Bt, hw, F_st⟩ := X2 Bs Bt hw hb;clear hb;go_wp2_with fail;refine (c2 _).mono ?_;rintro e w3 ⟨rfl, hb⟩;clear F_st;obtain ⟨Bs, Bt, hw, F_st⟩ := X2 Bs Bt hw hb;clear hb;go_wp2
 go_ret
 exact ⟨rfl, by have hl := hw.size; go_grown⟩
theorem rcmpW_2 (S T : Wl) (h0 : cmpP S.A T.A = 0) (h1 : cmpP S.B T.B = 0) (hs : 0 ≤ S.K ∧ S.K ≤ 2) (ht : 0 ≤ T.K ∧ T.K ≤ 2) (w : World) :
    Calls Tryz.prog 110 #[.agg #[.int .i64 S.A.x, .int .i64 S.A.y, .int .i64 S.B.x, .int .i64 S.B.y, .int .i64 S.K], .agg #[.int .i64 T.A.x, .int .i64 T.A.y, .int .i64 T.B.x, .int .i64 T.B.y, .int .i64 T.K]] w fun e w' => e = .returned (.int .i64 (cmpN S.K T.K)) ∧ Below w.heap.size w w' := by
 have c1 := zAb S.A T.A;have c2 := zAb S.B T.B;rw [h0] at c1;rw [h1] at c2;have c3 : ∀ W : World, Calls Tryz.prog 103 #[.int .i64 (S.K - T.K)] W fun e w' => e = .returned (.int .i64 (sgn (S.K - T.K))) ∧ Below W.heap.size W w' := fun W => (zHy (S.K - T.K) W).mono fun _ _ ⟨h1, h2⟩ => ⟨h1, by rw [h2]; exact Below.refl _ _⟩;have hw0 : wrap64 (S.K - T.K) = S.K - T.K := by rw [w64]; omega
 rw [show cmpN S.K T.K = sgn (S.K - T.K) by rfl];generalize sgn (S.K - T.K) = n at *
 clear h0 h1
 go_enter Tryz.func110, Tryz.ntmps110
 go_wp2_with fail;refine zA1 fun W1 hW => ?_;obtain ⟨Bs, Bt, hw⟩ := N2 hW;clear hW;refine (c1 _).mono ?_;rintro e w2 ⟨rfl, hb⟩;obtain ⟨Bs, Bt, hw, F_st⟩ := X2 Bs Bt hw hb;clear hb;go_wp2_with fail;refine (c2 _).mono ?_;rintro e w3 ⟨rfl, hb⟩;clear F_st;obtain ⟨Bs, Bt, hw, F_st⟩ := X2 Bs Bt hw hb;clear hb;go_wp2_with fail;refine (c3 _).mono ?_;rintro e w4 ⟨rfl, hb⟩;clear F_st;obtain ⟨Bs, Bt, hw, F_st⟩ := X2 Bs Bt hw hb;clear hb;go_wp2
 go_ret
 exact ⟨rfl, by have hl := hw.size; go_grown⟩
theorem rcmpW_any (S T : Wl) (hs : 0 ≤ S.K ∧ S.K ≤ 2) (ht : 0 ≤ T.K ∧ T.K ≤ 2) (w : World) :
    Calls Tryz.prog 110 #[.agg #[.int .i64 S.A.x, .int .i64 S.A.y, .int .i64 S.B.x, .int .i64 S.B.y, .int .i64 S.K], .agg #[.int .i64 T.A.x, .int .i64 T.A.y, .int .i64 T.B.x, .int .i64 T.B.y, .int .i64 T.K]] w fun e w' => e = .returned (.int .i64 (cmpW S T)) ∧ Below w.heap.size w w' := by
 by_cases h0 : cmpP S.A T.A = 0
 ·by_cases h1 : cmpP S.B T.B = 0
  ·rw [show cmpW S T = cmpN S.K T.K by unfold cmpW; simp [h0, h1]]; exact rcmpW_2 S T h0 h1 hs ht w
  ·rw [show cmpW S T = cmpP S.B T.B by unfold cmpW; simp [h0, h1]]; exact rcmpW_1 S T h0 h1 w
 ·rw [show cmpW S T = cmpP S.A T.A by unfold cmpW; simp [h0]]; exact rcmpW_0 S T h0 w
theorem RowAt.partW {α : Type} {c : α → List Value} {k : Nat} {w : World} {a : Option Addr} {L : List α} (h : RowAt c k w a L) (lo m cap : Nat) (hcap : L.length ≤ cap) :
    RowAt c k w (if cap = lo then a else a.map fun x => x.add (lo * k)) ((L.drop lo).take m) := fun j x hj => by
 have hj2 : L[lo + j]? = some x := by
  rw [List.getElem?_take] at hj;split at hj
  ·rwa [List.getElem?_drop] at hj
  ·cases hj
 obtain ⟨ad, h1, h2, h3⟩ := h (lo + j) x hj2;have hl := (List.getElem?_eq_some_iff.1 hj2).1;refine ⟨ad.add (lo * k), ?_, by rw [zAk]; exact h2, fun i u hu => ?_⟩
 ·rw [if_neg (by omega), h1]; rfl
 ·rw [show (ad.add (lo * k)).add (j * k) = ad.add ((lo + j) * k) by rw [Go.Deep.add_add, ← Nat.add_mul]];exact h3 i u hu
theorem zEp (a : Option Addr) (n cap lo : Nat) (h1 : lo ≤ n) (w : World) : (Instr.slice 101 (.slice a n cap) (some (.int .i64 lo)) none none).run Tryz.prog w = .ok (.slice (if cap = lo then a else a.map fun x => x.add (lo * 5)) (n - lo) (cap - lo)) w := by
 simp [Instr.slice, Instr.sliceBounds, Instr.sliceBound, asIntOf, run_underlying Tryz.underlying101, go_sem, h1]
theorem run_upto_wal (a : Option Addr) (n cap hi : Nat) (h1 : hi ≤ cap) (w : World) : (Instr.slice 101 (.slice a n cap) none (some (.int .i64 hi)) none).run Tryz.prog w = .ok (.slice a hi cap) w := by
 cases a <;> simp [Instr.slice, Instr.sliceBounds, Instr.sliceBound, asIntOf, run_underlying Tryz.underlying101, go_sem, h1, Addr.add]
attribute [local go_sem ↓ 10000] zEp run_upto_wal
theorem zAf {ops : Array Oper} {o : Oper} {a : Act} {w : World} {K : Act → World → Prop} {Q : Exit → Act → World → Prop} {E : Prop}
    (hw : Region.wanted o (yielded ops a.tmps) = true) (d x : Operand) (hop : o.op = Op.call { callee := Callee.builtin Builtin.append, args := #[d, x], argTypes := #[101, 101] })
    (B : Nat) (v : Value) (L : List Wl) (hd : a.eval d = v) (hown : WRow w B v L) (ad : Option Addr) (n c : Nat) (M : List Wl) (hx : a.eval x = .slice ad n c) (hM : M.length = n) (hrow : RowAt cW 5 w ad M) (hfl : Flat ad) (hnil : ad = none → n = 0 ∧ c = 0) (hL : L.length + n ≤ 1000000) (hbase : B ≤ w.heap.size) (d0 : Option Tmp) (hd0 : o.dst = d0)
    (h : ∀ w' v', WRow w' B v' (L ++ M) → Frm w w' (fun k => v.ownBlock = some k) → Fresh v v' w.heap.size → K (a.put d0 v') w') : if Region.wanted o (yielded ops a.tmps) = true then Oper.wp Tryz.prog o a w K Q else E := by
 subst hd0;rw [if_pos hw];obtain ⟨i0, hi, hz0, hz1, hz2⟩ := info_parts zGe;cases ad with
 | none =>
  obtain ⟨rfl, rfl⟩ := hnil rfl;have hM0 : M = [] := List.eq_nil_of_length_eq_zero hM;subst hM0;rw [List.append_nil] at h;have hr := run_append_owned_none (P := Tryz.prog) (w := w) B 101 o.type 105 i0 5 Tryz.underlying101 hi v L.length _ hown;unfold Oper.wp;simp [execOp, hop, resolve, invoke, builtin, hd, hx, hr, Result.andThen];exact h w v hown (Frm.refl w _) (fun g e => .inl e)
 | some A =>
  have hA : A = ⟨A.block, A.off, none⟩ := by have := hfl A rfl; cases A; simp_all
  rw [hA] at hx hrow;obtain ⟨v', w', hr, h2, h3, _, h4⟩ := run_append_own_at (P := Tryz.prog) w B 101 o.type 105 i0 _ 5 40 Tryz.underlying101 hi hz0 hz1 hz2 rfl (by decide) v L.length _ hown ⟨A.block, A.off, none⟩ n c (M.flatMap cW) (by rw [zBf zHu, hM]) (fun j u hu => by rw [Addr.add_lit]; exact (hrow.flat j u hu).2) (fun u hu => by
   obtain ⟨y, _, hy⟩ := List.mem_flatMap.1 hu;exact zL4 y u hy) (by unfold maxLen; omega) (by omega) hbase
  have hR : WRow w' B v' (L ++ M) := by
   unfold WRow;rw [List.length_append, List.flatMap_append, hM];exact h2
  unfold Oper.wp;simp [execOp, hop, resolve, invoke, builtin, hd, hx, hr, Result.andThen];exact h w' v' hR (Frm.of_grown h3 (p := fun k => v.ownBlock = some k) (fun g e => e)) (fun g e => by
   rcases h4 with h4 | h4
   ·exact .inl (h4 ▸ e)
   ·right; rw [h4] at e; exact Nat.le_of_eq (Option.some.inj e))
theorem zE1 (w : World) (B : Nat) (hB : B ≤ w.heap.size) : WRow (w.alloc (.cells #[] 105)) B (.slice (some ⟨w.heap.size, 0, none⟩) 0 0) [] := World.ownsRow_made w #[] 0 hB (Nat.zero_le _) (by simp)
structure DocAt (w : World) (db : Nat) (v : Value) (L : List Wl) : Prop where
 box : Box w db [v] 103
 row : WRow w 0 v L
 ne : v.ownBlock ≠ some db
 le : L.length ≤ 1000000
theorem DocAt.rd {w : World} {db : Nat} {v : Value} {L : List Wl} (S : DocAt w db v L) : ∃ a c, v = .slice a L.length c ∧ DocRd w db a c L.length L ∧ (a = none → L = [] ∧ c = 0) := by
 obtain ⟨a, c, h1, h2, h3⟩ := S.row.row;refine ⟨a, c, h1, ⟨h1 ▸ S.box, h2, rfl, S.le, ?_, h3⟩, fun e => ?_⟩
 ·rcases S.row.box with ⟨e, e2⟩ | ⟨_, _, _, e, _, _, h, _⟩
  ·rw [e2]; exact Nat.zero_le _
  ·rw [h1] at e; simp only [Value.slice.injEq] at e; omega
 ·rcases S.row.box with ⟨e1, e2⟩ | ⟨_, _, _, e2, _⟩
  ·rw [h1] at e1; simp only [Value.slice.injEq] at e1; exact ⟨e2, e1.2.2⟩
  ·rw [h1, e] at e2; simp at e2
theorem DocAt.ext {w w' : World} {db : Nat} {v : Value} {L : List Wl} {n : Nat} (S : DocAt w db v L) (hb : Below n w w') (hn : n = w.heap.size) : DocAt w' db v L :=
 ⟨S.box.ext hb hn, S.row.ext hb hn, S.ne, S.le⟩
theorem DocAt.ee {w w' : World} {db : Nat} {v : Value} {L : List Wl} (S : DocAt w db v L) (hb : Below w.heap.size w w') : DocAt w' db v L := S.ext hb rfl
theorem zEz {w wq : World} {db : Nat} {v v' : Value} {L L' : List Wl} (S : DocAt w db v L) (hb : Below w.heap.size w wq) (hown : WRow wq w.heap.size v' L') (hl : L'.length ≤ 1000000) :
    DocAt (wq.setCell ⟨db, 0, none⟩ v') db v' L' ∧ Frm w (wq.setCell ⟨db, 0, none⟩ v') (· = db) ∧ (∀ g, v'.ownBlock = some g → w.heap.size ≤ g) := by
 have hdb := S.box.lt;have hge : ∀ g, v'.ownBlock = some g → w.heap.size ≤ g := fun g e => (hown.lt g e).1;have BQ : Box wq db [v] 103 := S.box.ee hb;have hne : v'.ownBlock ≠ some db := fun e => by have := hge db e; omega
 exact ⟨⟨BQ.set 0 v', ((Frm.refl wq (· = db)).setCell ⟨db, 0, none⟩ rfl v').row (hown.base (Nat.zero_le _)) (fun g e => fun h => hne (by rw [e, h])), hne, hl⟩, (Frm.of_below (p := (· = db)) hb).setCell ⟨db, 0, none⟩ rfl v', hge⟩
def PutAt (L : List Wl) (X : Wl) (k : Nat) : Prop := k ≤ L.length ∧ (∀ (j : Nat) (h : j < L.length), k ≤ j → 0 < cmpW L[j] X) ∧ (∀ h : k - 1 < L.length, 0 < k → ¬ 0 < cmpW L[k - 1] X)
theorem zEk {w : World} {a0 : Option Addr} {c n k : Nat} {L : List Wl} (hrow : RowAt cW 5 w a0 L) (hl : L.length = n) (hnc : n ≤ c) (hfl : Flat a0) (hk : k ≤ n) (hz : a0 = none → L = [] ∧ c = 0) :
    ∃ ad, (if c = k then a0 else a0.map fun x => x.add (k * 5)) = ad ∧ RowAt cW 5 w ad (L.drop k) ∧ Flat ad ∧ (ad = none → n - k = 0 ∧ c - k = 0) := by
 have h := hrow.partW k (n - k) c (by omega);rw [List.take_of_length_le (by rw [List.length_drop]; omega)] at h;refine ⟨_, rfl, h, fun A hA => ?_, fun e => ?_⟩
 ·split at hA
  ·exact hfl A hA
  ·cases a0 with
   | none => cases hA
   | some A0 =>
    have h0 := hfl A0 rfl;have : A0 = ⟨A0.block, A0.off, none⟩ := by cases A0; simp_all
    rw [this] at hA;simp only [Option.map_some, Addr.add_lit, Option.some.injEq] at hA;rw [← hA]
 ·have h0 : a0 = none := by
    split at e
    ·exact e
    ·cases a0 with
     | none => rfl
     | some _ => cases e
  obtain ⟨h1, h2⟩ := hz h0;subst h1 h2;simp at hl;omega
theorem zCi (db : Nat) (v : Value) (L : List Wl) (X : Wl) (hL : L.length < 1000000) (hgk : ∀ x ∈ L, 0 ≤ x.K ∧ x.K ≤ 2) (hXk : 0 ≤ X.K ∧ X.K ≤ 2) (w : World) (S : DocAt w db v L) :
    Calls Tryz.prog 70 #[.pointer (some ⟨db, 0, none⟩), .agg #[.int .i64 X.A.x, .int .i64 X.A.y, .int .i64 X.B.x, .int .i64 X.B.y, .int .i64 X.K]] w fun e w' => ∃ k v', e = .returned (.tuple #[]) ∧ PutAt L X k ∧ DocAt w' db v' (L.take k ++ X :: L.drop k) ∧ Frm w w' (· = db) ∧ (∀ g, v'.ownBlock = some g → w.heap.size ≤ g) := by
 obtain ⟨a0, c, rfl, D, hz⟩ := S.rd;have HS := Lib.hid S;clear S;have hdb := D.box.lt;obtain ⟨n, hn⟩ : ∃ n, L.length = n := ⟨_, rfl⟩;rw [hn] at D hL HS;have HM := Lib.hid hn;have hnc := D.nc;have hfl := D.flat;obtain ⟨d0, d1, d2, d3⟩ := D.box.f;have HD := Lib.hid D;have HG := Lib.hid hgk;have HXK := Lib.hid hXk;clear D hn hgk hXk
 go_enter Tryz.func70, Tryz.ntmps70
 go_wp2_with fail;refine zA3 fun W1 hW => ?_;have BX : Box W1 w.heap.size [.int .i64 X.A.x, .int .i64 X.A.y, .int .i64 X.B.x, .int .i64 X.B.y, .int .i64 X.K] 105 := by rw [hW]; exact Box.new rfl
 have hw : Below w.heap.size w W1 := by rw [hW]; go_grown
 clear hW d0 d1 d2 d3
 go_loopw [4] (fun vat wr => ∃ k : Nat, k ≤ n ∧ vat = .int .i64 k ∧ Hid (∀ (j : Nat) (h : j < L.length), k ≤ j → 0 < cmpW L[j] X) ∧ Below w.heap.size w wr ∧ Box wr w.heap.size [.int .i64 X.A.x, .int .i64 X.A.y, .int .i64 X.B.x, .int .i64 X.B.y, .int .i64 X.K] 105) (fun vat _ => (intOf vat).toNat)
 case atStart => exact ⟨n, Nat.le_refl _, rfl, Lib.hid (fun j h hj => by have := HM.out; omega), hw, BX⟩
 case round =>
  clear BX hw;obtain ⟨k, hk, rfl, HA, hwr, BX⟩ := hrel;have BD := (HD.out.ee hwr).box;have hrow := (HD.out.ee hwr).row;by_cases hk0 : k = 0
  ·have q1 : decide (0 < k) = false := by simp; omega
   have HK0 := Lib.hid hk0;clear hk0;have g_XD := J2 BX.cells BD.cells;obtain ⟨d0, d1, d2, d3⟩ := BD.f;go_wp2_with fail;refine (wp_region_tail 14 (by kernel_rfl) (by kernel_rfl) (C := fun w' => ∃ p : Regrown, w' = grow (redrawn wr p.d) p.os) rgB ?_);simp only [tK1, tK0, dP1, dP0];repeat (first | (refine zA0 (Eq.refl false) ?_; simp only [Act.put, sT2, sT1, sT0]) | (refine rWalk_step (fun K hK => ?_); go_simp; first | (refine hK _ ?_; clear hK K) | (apply Exists.intro; refine ⟨fun _ => ?_, hK _ ?_⟩; (first | with_reducible exact toExt c5 _); clear hK K)))
   refine rWalk_nil ?_;intro wx hb;replace BX := BX.ee hb;replace BD := BD.ee hb;replace hrow := hrow.ee hb;replace hwr := upB hwr hb;clear hb;clear g_XD d0 d1 d2 d3 q1;have HPUT : Hid (PutAt L X k) := Lib.hid ⟨by rw [HM.out]; exact hk, HA.out, fun _ h => by have := HK0.out; omega⟩;obtain ⟨ad, had, hdr, hfl2, hnil⟩ := zEk hrow HM.out hnc hfl hk hz;have HAD := Lib.hid had;have HT1 := Lib.hid (show (L.take k).length = k by rw [List.length_take, HM.out]; omega);have HT2 := Lib.hid (show (L.drop k).length = n - k by rw [List.length_drop, HM.out]);clear had HA;have g_XD := J2 BX.cells BD.cells;obtain ⟨d0, d1, d2, d3⟩ := BD.f;have z2 : k ≤ c := by omega
   go_wp2_with fail;clear d0 d1 d2 d3;have hcB : ∀ w', (∃ p : Regrown, w' = grow (redrawn wx p.d) p.os) → Below wx.heap.size wx w' := fun w' h => by obtain ⟨p, rfl⟩ := h; exact below_regrown _ _ _
   refine FT.wp_region_flow 19 (.run 0 (.run 2 (.run 3 (.run 4 (.run 5 (.run 6 (.run 7 (.run 9 (.run 12 (.run 13 (.run 14 (.run 15 (.run 16 (.run 17 (.alt 1 (.alt 8 (.alt 10 (.alt 11 (.alt 18 (.tail) .stop) .stop) .stop) (.alt 10 (.alt 8 (.alt 11 (.alt 18 (.tail) .stop) .stop) .stop) .stop)) (.alt 10 (.alt 1 (.alt 8 (.alt 11 (.alt 18 (.tail) .stop) .stop) .stop) .stop) .stop)))))))))))))))) rfl (by kernel_rfl) (fun _ x _ _ _ h => by cases x <;> exact h) (C := fun w' => ∃ p : Regrown, w' = grow (redrawn wx p.d) p.os) rgB hcB ?_;have hC : ∀ x y, Ext x y → (∃ p : Regrown, x = grow (redrawn wx p.d) p.os) → (∃ p : Regrown, y = grow (redrawn wx p.d) p.os) := fun x y h1 h2 => regrown_of_below ((hcB x h2).trans (h1.mono (hcB x h2).size))
   iterate 14 (refine FT.flow_run rfl (fun K hK => ?_); go_simp; first | (refine hK _ ?_; clear hK K) | (apply Exists.intro; refine ⟨fun _ => ?_, hK _ ?_⟩; rotate_left; clear hK K))
   first | rw [HAD.out] | (have hq := HAD.out; simp only [Option.map_some] at hq; rw [hq]; clear hq)
   refine FT.flow_at hC rfl ?y10 (fun w1 hw1 K hK => ?y1)
   case y1 =>
    go_simp;have hbM : Below wx.heap.size wx (w1.alloc (.cells #[] 105)) := Below.alloc hw1 (Below.size hw1) _;have hrM := zE1 w1 wx.heap.size (Below.size hw1);refine hK _ _ (regrown_of_below hbM) ?_;clear hK K;refine FT.flow_at hC rfl ?z10 (fun w2 hw2 K hK => ?z8)
    case z8 =>
     have hb2 := hbM.trans (Below.mono hw2 hbM.size);refine zAf (by rfl) _ _ (by rfl) wx.heap.size _ [] (by rfl) (hrM.ee hw2) _ k c (L.take k) (by rfl) HT1.out ((hrow.ee hb2).take k) hfl (fun e => ⟨by have h1 := (hz e).1; have h2 := HM.out; rw [h1] at h2; simp at h2; omega, (hz e).2⟩) (by simp; omega) (Below.size hb2) (some 35) (by rfl) ?_;intro w3 v12 hr12 hf12 hs12;rw [List.nil_append] at hr12;have hb3 := hb2.trans (hf12.below (fun k e => ((hrM.ee hw2).lt k e).1) hb2.size);refine hK _ _ (regrown_of_below hb3) ?_;clear hK K;simp only [Act.put, sT2, sT1, sT0];refine FT.flow_at hC rfl trivial (fun w9 hw9 K hK => ?_);go_simp;have hb9 := (upB hb3 hw9);have hbW := hb9.alloc hb9.size (.cells #[.int .i64 X.A.x, .int .i64 X.A.y, .int .i64 X.B.x, .int .i64 X.B.y, .int .i64 X.K] 105);refine hK _ _ (regrown_of_below hbW) ?_;clear hK K;obtain ⟨bx, hbx0⟩ : ∃ bx, w9.heap.size = bx := ⟨_, rfl⟩;have hbx : Box (w9.alloc (.cells #[.int .i64 X.A.x, .int .i64 X.A.y, .int .i64 X.B.x, .int .i64 X.B.y, .int .i64 X.K] 105)) bx (cW X) 105 := by rw [← hbx0]; exact Box.new rfl
     replace hr12 := (hr12.ee hw9).alloc (.cells #[.int .i64 X.A.x, .int .i64 X.A.y, .int .i64 X.B.x, .int .i64 X.B.y, .int .i64 X.K] 105);rw [hbx0];clear hbx0;refine FT.flow_at hC rfl trivial (fun w4 hw4 K hK => ?_);have hb4 := (upB hbW hw4);refine zAf (by rfl) _ _ (by rfl) wx.heap.size v12 (L.take k) (by rfl) (hr12.ee hw4) (some ⟨bx, 0, none⟩) 1 1 [X] (by rfl) rfl (zD1 (by simpa using hbx.ee hw4)) (zE3 _ _) (fun e => by cases e) (by rw [HT1.out]; omega) hb4.size (some 38) (by rfl) ?_;intro w5 v13 hr13 hf13 hs13;have hb5 := hb4.trans (hf13.below (fun k e => ((hr12.ee hw4).lt k e).1) hb4.size);refine hK _ _ (regrown_of_below hb5) ?_;clear hK K;simp only [Act.put, sT2, sT1, sT0];refine FT.flow_at hC rfl trivial (fun w6 hw6 K hK => ?_);have hb6 := (upB hb5 hw6);refine zAf (by rfl) _ _ (by rfl) wx.heap.size v13 (L.take k ++ [X]) (by rfl) (hr13.ee hw6) ad (n - k) (c - k) (L.drop k) (by rfl) HT2.out (hdr.ee hb6) hfl2 hnil (by rw [List.length_append, HT1.out]; simp; omega) hb6.size (some 45) (by rfl) ?_;intro w7 v18 hr18 hf18 hs18;have hb7 := hb6.trans (hf18.below (fun k e => ((hr13.ee hw6).lt k e).1) hb6.size);refine hK _ _ (regrown_of_below hb7) ?_;clear hK K;simp only [Act.put, sT2, sT1, sT0];intro w8 hw8;have hb8 := (upB hb7 hw8);have BD8 := BD.ee hb8;have hw8' := (upB hwr hb8);obtain ⟨hS8, hF8, hG8⟩ := zEz HS.out hw8' ((hr18.ee hw8).base hwr.size) (by rw [List.length_append, List.length_append, HT1.out, HT2.out, List.length_singleton]; omega);obtain ⟨a18, n18, c18, rfl⟩ := hr18.form;obtain ⟨d0, d1, d2, d3⟩ := BD8.f;clear hr12 hr13 hr18 hf13 hs13 hf18 hs18 hbx g_XD;simp only [dP1, dP0];go_wp2;rw [List.append_assoc, List.singleton_append] at hS8;exact ⟨rfl, .tuple #[], by simp [results, Tryz.results70, go_sem], k, _, rfl, HPUT.out, hS8, hF8, hG8⟩
    case z10 =>
     refine FT.flow_at hC rfl trivial (fun w9 hw9 K hK => ?_);go_simp;have hb9 := hbM.trans (Below.mono hw9 hbM.size);have hbN := hb9.alloc hb9.size (.cells #[.int .i64 X.A.x, .int .i64 X.A.y, .int .i64 X.B.x, .int .i64 X.B.y, .int .i64 X.K] 105);refine hK _ _ (regrown_of_below hbN) ?_;clear hK K;have hrM9 := (hrM.ee hw9).alloc (.cells #[.int .i64 X.A.x, .int .i64 X.A.y, .int .i64 X.B.x, .int .i64 X.B.y, .int .i64 X.K] 105);obtain ⟨bx, hbx0⟩ : ∃ bx, w9.heap.size = bx := ⟨_, rfl⟩;have hbx9 : Box (w9.alloc (.cells #[.int .i64 X.A.x, .int .i64 X.A.y, .int .i64 X.B.x, .int .i64 X.B.y, .int .i64 X.K] 105)) bx (cW X) 105 := by rw [← hbx0]; exact Box.new rfl
     have hne : ¬ Value.ownBlock (.slice (some ⟨w1.heap.size, 0, none⟩) 0 0) = some bx := fun e => by
      have h1 := Below.size hw9;have e2 : w1.heap.size = bx := by simpa [Value.ownBlock] using e
      simp at h1;omega
     rw [hbx0];clear hbx0;refine FT.flow_at hC rfl trivial (fun w2 hw2 K hK => ?_);have hb2 := hbN.trans (Below.mono hw2 hbN.size);refine zAf (by rfl) _ _ (by rfl) wx.heap.size _ [] (by rfl) (hrM9.ee hw2) _ k c (L.take k) (by rfl) HT1.out ((hrow.ee hb2).take k) hfl (fun e => ⟨by have h1 := (hz e).1; have h2 := HM.out; rw [h1] at h2; simp at h2; omega, (hz e).2⟩) (by simp; omega) (Below.size hb2) (some 35) (by rfl) ?_;intro w3 v12 hr12 hf12 hs12;rw [List.nil_append] at hr12;have hbW := hb2.trans (hf12.below (fun k e => ((hrM9.ee hw2).lt k e).1) hb2.size);have hbx := hf12.box (hbx9.ee hw2) hne;refine hK _ _ (regrown_of_below hbW) ?_;clear hK K;simp only [Act.put, sT2, sT1, sT0];refine FT.flow_at hC rfl trivial (fun w4 hw4 K hK => ?_);have hb4 := (upB hbW hw4);refine zAf (by rfl) _ _ (by rfl) wx.heap.size v12 (L.take k) (by rfl) (hr12.ee hw4) (some ⟨bx, 0, none⟩) 1 1 [X] (by rfl) rfl (zD1 (by simpa using hbx.ee hw4)) (zE3 _ _) (fun e => by cases e) (by rw [HT1.out]; omega) hb4.size (some 38) (by rfl) ?_;intro w5 v13 hr13 hf13 hs13;have hb5 := hb4.trans (hf13.below (fun k e => ((hr12.ee hw4).lt k e).1) hb4.size);refine hK _ _ (regrown_of_below hb5) ?_;clear hK K;simp only [Act.put, sT2, sT1, sT0];refine FT.flow_at hC rfl trivial (fun w6 hw6 K hK => ?_);have hb6 := (upB hb5 hw6);refine zAf (by rfl) _ _ (by rfl) wx.heap.size v13 (L.take k ++ [X]) (by rfl) (hr13.ee hw6) ad (n - k) (c - k) (L.drop k) (by rfl) HT2.out (hdr.ee hb6) hfl2 hnil (by rw [List.length_append, HT1.out]; simp; omega) hb6.size (some 45) (by rfl) ?_;intro w7 v18 hr18 hf18 hs18;have hb7 := hb6.trans (hf18.below (fun k e => ((hr13.ee hw6).lt k e).1) hb6.size);refine hK _ _ (regrown_of_below hb7) ?_;clear hK K;simp only [Act.put, sT2, sT1, sT0];intro w8 hw8;have hb8 := (upB hb7 hw8);have BD8 := BD.ee hb8;have hw8' := (upB hwr hb8);obtain ⟨hS8, hF8, hG8⟩ := zEz HS.out hw8' ((hr18.ee hw8).base hwr.size) (by rw [List.length_append, List.length_append, HT1.out, HT2.out, List.length_singleton]; omega);obtain ⟨a18, n18, c18, rfl⟩ := hr18.form;obtain ⟨d0, d1, d2, d3⟩ := BD8.f;clear hr12 hr13 hr18 hf13 hs13 hf18 hs18 hbx g_XD;simp only [dP1, dP0];go_wp2;rw [List.append_assoc, List.singleton_append] at hS8;exact ⟨rfl, .tuple #[], by simp [results, Tryz.results70, go_sem], k, _, rfl, HPUT.out, hS8, hF8, hG8⟩
   case y10 =>
    refine FT.flow_at hC rfl trivial (fun w9 hw9 K hK => ?_);go_simp;have hbN : Below wx.heap.size wx (w9.alloc (.cells #[.int .i64 X.A.x, .int .i64 X.A.y, .int .i64 X.B.x, .int .i64 X.B.y, .int .i64 X.K] 105)) := Below.alloc hw9 (Below.size hw9) _;refine hK _ _ (regrown_of_below hbN) ?_;clear hK K;obtain ⟨bx, hbx0⟩ : ∃ bx, w9.heap.size = bx := ⟨_, rfl⟩;have hbx9 : Box (w9.alloc (.cells #[.int .i64 X.A.x, .int .i64 X.A.y, .int .i64 X.B.x, .int .i64 X.B.y, .int .i64 X.K] 105)) bx (cW X) 105 := by rw [← hbx0]; exact Box.new rfl
    rw [hbx0];clear hbx0;refine FT.flow_at hC rfl trivial (fun w1 hw1 K hK => ?_);have hb1 := hbN.trans (Below.mono hw1 hbN.size);have hrM := zE1 w1 wx.heap.size hb1.size;go_simp;have hbM := hb1.alloc hb1.size (.cells #[] 105);refine hK _ _ (regrown_of_below hbM) ?_;clear hK K;have hbx1 := (hbx9.ee hw1).old (.cells #[] 105);have hne : ¬ Value.ownBlock (.slice (some ⟨w1.heap.size, 0, none⟩) 0 0) = some bx := fun e => by
     have h1 := (hbx9.ee hw1).lt;have e2 : w1.heap.size = bx := by simpa [Value.ownBlock] using e
     omega
    refine FT.flow_at hC rfl trivial (fun w2 hw2 K hK => ?_);have hb2 := hbM.trans (Below.mono hw2 hbM.size);refine zAf (by rfl) _ _ (by rfl) wx.heap.size _ [] (by rfl) (hrM.ee hw2) _ k c (L.take k) (by rfl) HT1.out ((hrow.ee hb2).take k) hfl (fun e => ⟨by have h1 := (hz e).1; have h2 := HM.out; rw [h1] at h2; simp at h2; omega, (hz e).2⟩) (by simp; omega) (Below.size hb2) (some 35) (by rfl) ?_;intro w3 v12 hr12 hf12 hs12;rw [List.nil_append] at hr12;have hbW := hb2.trans (hf12.below (fun k e => ((hrM.ee hw2).lt k e).1) hb2.size);have hbx := hf12.box (hbx1.ee hw2) hne;refine hK _ _ (regrown_of_below hbW) ?_;clear hK K;simp only [Act.put, sT2, sT1, sT0];refine FT.flow_at hC rfl trivial (fun w4 hw4 K hK => ?_);have hb4 := (upB hbW hw4);refine zAf (by rfl) _ _ (by rfl) wx.heap.size v12 (L.take k) (by rfl) (hr12.ee hw4) (some ⟨bx, 0, none⟩) 1 1 [X] (by rfl) rfl (zD1 (by simpa using hbx.ee hw4)) (zE3 _ _) (fun e => by cases e) (by rw [HT1.out]; omega) hb4.size (some 38) (by rfl) ?_;intro w5 v13 hr13 hf13 hs13;have hb5 := hb4.trans (hf13.below (fun k e => ((hr12.ee hw4).lt k e).1) hb4.size);refine hK _ _ (regrown_of_below hb5) ?_;clear hK K;simp only [Act.put, sT2, sT1, sT0];refine FT.flow_at hC rfl trivial (fun w6 hw6 K hK => ?_);have hb6 := (upB hb5 hw6);refine zAf (by rfl) _ _ (by rfl) wx.heap.size v13 (L.take k ++ [X]) (by rfl) (hr13.ee hw6) ad (n - k) (c - k) (L.drop k) (by rfl) HT2.out (hdr.ee hb6) hfl2 hnil (by rw [List.length_append, HT1.out]; simp; omega) hb6.size (some 45) (by rfl) ?_;intro w7 v18 hr18 hf18 hs18;have hb7 := hb6.trans (hf18.below (fun k e => ((hr13.ee hw6).lt k e).1) hb6.size);refine hK _ _ (regrown_of_below hb7) ?_;clear hK K;simp only [Act.put, sT2, sT1, sT0];intro w8 hw8;have hb8 := (upB hb7 hw8);have BD8 := BD.ee hb8;have hw8' := (upB hwr hb8);obtain ⟨hS8, hF8, hG8⟩ := zEz HS.out hw8' ((hr18.ee hw8).base hwr.size) (by rw [List.length_append, List.length_append, HT1.out, HT2.out, List.length_singleton]; omega);obtain ⟨a18, n18, c18, rfl⟩ := hr18.form;obtain ⟨d0, d1, d2, d3⟩ := BD8.f;clear hr12 hr13 hr18 hf13 hs13 hf18 hs18 hbx g_XD;simp only [dP1, dP0];go_wp2;rw [List.append_assoc, List.singleton_append] at hS8;exact ⟨rfl, .tuple #[], by simp [results, Tryz.results70, go_sem], k, _, rfl, HPUT.out, hS8, hF8, hG8⟩
  ·obtain ⟨i, hik⟩ : ∃ i, i + 1 = k := ⟨k - 1, by omega⟩;have hkL : i < L.length := by rw [HM.out]; omega
   have hkn : i < n := by omega
   obtain ⟨aj, A, ea, eA, hA5⟩ := hrow.five (j := i) hkL;have c5 := rcmpW_any L[i] X (HG.out _ (List.getElem_mem hkL)) HXK.out;have HZ : Hid (cmpW L[i] X = cmpW L[i] X) := Lib.hid rfl;generalize hz0 : cmpW L[i] X = z at c5 HZ
   clear HZ;have HZ := Lib.hid hz0;clear hz0;have HY : Hid (L[i] = L[i]) := Lib.hid rfl;generalize hY : L[i] = Y at hA5 c5 HY HZ
   clear HY;have HY := Lib.hid hY;clear hY;obtain ⟨s0, s1, s2, s3, s4⟩ := hA5.cells;have g_XD := J2 BX.cells BD.cells;obtain ⟨d0, d1, d2, d3⟩ := BD.f;have q1 : decide (0 < k) = true := by simp; omega
   have q0 : (0 : Int) < (k : Int) := by omega
   have q2 : IntKind.i64.wrap ((k : Int) - 1) = (i : Int) := by rw [IntKind.wrap_i64]; omega
   have q3 : (i : Int) < (n : Int) := by omega
   have q4 : (0 : Int) ≤ (i : Int) := by omega
   have HIK := Lib.hid hik;clear hik hk0;subst ea;clear hA5;cases ez : decide (0 < z) with
   | true =>
    have HA2 : Hid (∀ (j : Nat) (h : j < L.length), i ≤ j → 0 < cmpW L[j] X) := Lib.hid (fun j h hj => by
     by_cases e : j = i
     ·subst e; rw [HY.out, HZ.out]; simpa using ez
     ·exact HA.out j h (by have := HIK.out; omega))
    clear HA HY HZ;go_wp2_with fail;refine (wp_region_tail 14 (by kernel_rfl) (by kernel_rfl) (C := fun w' => ∃ p : Regrown, w' = grow (redrawn wr p.d) p.os) rgB ?_);simp only [tK1, tK0, dP1, dP0];repeat (first | (refine zA0 (Eq.refl false) ?_; simp only [Act.put, sT2, sT1, sT0]) | (refine rWalk_step (fun K hK => ?_); go_simp; first | (refine hK _ ?_; clear hK K) | (apply Exists.intro; refine ⟨fun _ => ?_, hK _ ?_⟩; (first | with_reducible exact toExt c5 _); clear hK K)))
    refine rWalk_nil ?_;intro wx hb;replace BX := BX.ee hb;replace BD := BD.ee hb;replace hrow := hrow.ee hb;replace hwr := upB hwr hb;clear hb;clear g_XD d0 d1 d2 d3 q1 q2 q3 q4 s0 s1 s2 s3 s4 c5;have HB := Lib.hid BX;have HW := Lib.hid hwr;clear BX hwr BD hrow;go_wp2
    go_roundw
    case rel => exact ⟨i, by omega, by rw [show (i : Int) = (k : Int) - 1 by have := HIK.out; omega], HA2, HW.out, HB.out⟩
    case measure => simp [intOf]; omega
   | false =>
    have HTOP : Hid (∀ h : k - 1 < L.length, 0 < k → ¬ 0 < cmpW L[k - 1] X) := Lib.hid (fun h _ => by
     have e : k - 1 = i := by have := HIK.out; omega
     have h2 : L[k - 1] = L[i] := by simp only [e]
     rw [h2, HY.out, HZ.out]; simpa using ez)
    clear HY HZ;go_wp2_with fail;refine (wp_region_tail 14 (by kernel_rfl) (by kernel_rfl) (C := fun w' => ∃ p : Regrown, w' = grow (redrawn wr p.d) p.os) rgB ?_);simp only [tK1, tK0, dP1, dP0];repeat (first | (refine zA0 (Eq.refl false) ?_; simp only [Act.put, sT2, sT1, sT0]) | (refine rWalk_step (fun K hK => ?_); go_simp; first | (refine hK _ ?_; clear hK K) | (apply Exists.intro; refine ⟨fun _ => ?_, hK _ ?_⟩; (first | with_reducible exact toExt c5 _); clear hK K)))
    refine rWalk_nil ?_;intro wx hb;replace BX := BX.ee hb;replace BD := BD.ee hb;replace hrow := hrow.ee hb;replace hwr := upB hwr hb;clear hb;clear g_XD d0 d1 d2 d3 q0 q1 q2 q3 q4 s0 s1 s2 s3 s4 c5;have HPUT : Hid (PutAt L X k) := Lib.hid ⟨by rw [HM.out]; exact hk, HA.out, fun h h0 => by have := HTOP.out h h0; omega⟩;obtain ⟨ad, had, hdr, hfl2, hnil⟩ := zEk hrow HM.out hnc hfl hk hz;have HAD := Lib.hid had;have HT1 := Lib.hid (show (L.take k).length = k by rw [List.length_take, HM.out]; omega);have HT2 := Lib.hid (show (L.drop k).length = n - k by rw [List.length_drop, HM.out]);clear had HA;have g_XD := J2 BX.cells BD.cells;obtain ⟨d0, d1, d2, d3⟩ := BD.f;have z2 : k ≤ c := by omega
    go_wp2_with fail;clear d0 d1 d2 d3;have hcB : ∀ w', (∃ p : Regrown, w' = grow (redrawn wx p.d) p.os) → Below wx.heap.size wx w' := fun w' h => by obtain ⟨p, rfl⟩ := h; exact below_regrown _ _ _
    refine FT.wp_region_flow 19 (.run 0 (.run 2 (.run 3 (.run 4 (.run 5 (.run 6 (.run 7 (.run 9 (.run 12 (.run 13 (.run 14 (.run 15 (.run 16 (.run 17 (.alt 1 (.alt 8 (.alt 10 (.alt 11 (.alt 18 (.tail) .stop) .stop) .stop) (.alt 10 (.alt 8 (.alt 11 (.alt 18 (.tail) .stop) .stop) .stop) .stop)) (.alt 10 (.alt 1 (.alt 8 (.alt 11 (.alt 18 (.tail) .stop) .stop) .stop) .stop) .stop)))))))))))))))) rfl (by kernel_rfl) (fun _ x _ _ _ h => by cases x <;> exact h) (C := fun w' => ∃ p : Regrown, w' = grow (redrawn wx p.d) p.os) rgB hcB ?_;have hC : ∀ x y, Ext x y → (∃ p : Regrown, x = grow (redrawn wx p.d) p.os) → (∃ p : Regrown, y = grow (redrawn wx p.d) p.os) := fun x y h1 h2 => regrown_of_below ((hcB x h2).trans (h1.mono (hcB x h2).size))
    iterate 14 (refine FT.flow_run rfl (fun K hK => ?_); go_simp; first | (refine hK _ ?_; clear hK K) | (apply Exists.intro; refine ⟨fun _ => ?_, hK _ ?_⟩; rotate_left; clear hK K))
    first | rw [HAD.out] | (have hq := HAD.out; simp only [Option.map_some] at hq; rw [hq]; clear hq)
    refine FT.flow_at hC rfl ?y10 (fun w1 hw1 K hK => ?y1)
    case y1 =>
     go_simp;have hbM : Below wx.heap.size wx (w1.alloc (.cells #[] 105)) := Below.alloc hw1 (Below.size hw1) _;have hrM := zE1 w1 wx.heap.size (Below.size hw1);refine hK _ _ (regrown_of_below hbM) ?_;clear hK K;refine FT.flow_at hC rfl ?z10 (fun w2 hw2 K hK => ?z8)
     case z8 =>
      have hb2 := hbM.trans (Below.mono hw2 hbM.size);refine zAf (by rfl) _ _ (by rfl) wx.heap.size _ [] (by rfl) (hrM.ee hw2) _ k c (L.take k) (by rfl) HT1.out ((hrow.ee hb2).take k) hfl (fun e => ⟨by have h1 := (hz e).1; have h2 := HM.out; rw [h1] at h2; simp at h2; omega, (hz e).2⟩) (by simp; omega) (Below.size hb2) (some 35) (by rfl) ?_;intro w3 v12 hr12 hf12 hs12;rw [List.nil_append] at hr12;have hb3 := hb2.trans (hf12.below (fun k e => ((hrM.ee hw2).lt k e).1) hb2.size);refine hK _ _ (regrown_of_below hb3) ?_;clear hK K;simp only [Act.put, sT2, sT1, sT0];refine FT.flow_at hC rfl trivial (fun w9 hw9 K hK => ?_);go_simp;have hb9 := (upB hb3 hw9);have hbW := hb9.alloc hb9.size (.cells #[.int .i64 X.A.x, .int .i64 X.A.y, .int .i64 X.B.x, .int .i64 X.B.y, .int .i64 X.K] 105);refine hK _ _ (regrown_of_below hbW) ?_;clear hK K;obtain ⟨bx, hbx0⟩ : ∃ bx, w9.heap.size = bx := ⟨_, rfl⟩;have hbx : Box (w9.alloc (.cells #[.int .i64 X.A.x, .int .i64 X.A.y, .int .i64 X.B.x, .int .i64 X.B.y, .int .i64 X.K] 105)) bx (cW X) 105 := by rw [← hbx0]; exact Box.new rfl
      replace hr12 := (hr12.ee hw9).alloc (.cells #[.int .i64 X.A.x, .int .i64 X.A.y, .int .i64 X.B.x, .int .i64 X.B.y, .int .i64 X.K] 105);rw [hbx0];clear hbx0;refine FT.flow_at hC rfl trivial (fun w4 hw4 K hK => ?_);have hb4 := (upB hbW hw4);refine zAf (by rfl) _ _ (by rfl) wx.heap.size v12 (L.take k) (by rfl) (hr12.ee hw4) (some ⟨bx, 0, none⟩) 1 1 [X] (by rfl) rfl (zD1 (by simpa using hbx.ee hw4)) (zE3 _ _) (fun e => by cases e) (by rw [HT1.out]; omega) hb4.size (some 38) (by rfl) ?_;intro w5 v13 hr13 hf13 hs13;have hb5 := hb4.trans (hf13.below (fun k e => ((hr12.ee hw4).lt k e).1) hb4.size);refine hK _ _ (regrown_of_below hb5) ?_;clear hK K;simp only [Act.put, sT2, sT1, sT0];refine FT.flow_at hC rfl trivial (fun w6 hw6 K hK => ?_);have hb6 := (upB hb5 hw6);refine zAf (by rfl) _ _ (by rfl) wx.heap.size v13 (L.take k ++ [X]) (by rfl) (hr13.ee hw6) ad (n - k) (c - k) (L.drop k) (by rfl) HT2.out (hdr.ee hb6) hfl2 hnil (by rw [List.length_append, HT1.out]; simp; omega) hb6.size (some 45) (by rfl) ?_;intro w7 v18 hr18 hf18 hs18;have hb7 := hb6.trans (hf18.below (fun k e => ((hr13.ee hw6).lt k e).1) hb6.size);refine hK _ _ (regrown_of_below hb7) ?_;clear hK K;simp only [Act.put, sT2, sT1, sT0];intro w8 hw8;have hb8 := (upB hb7 hw8);have BD8 := BD.ee hb8;have hw8' := (upB hwr hb8);obtain ⟨hS8, hF8, hG8⟩ := zEz HS.out hw8' ((hr18.ee hw8).base hwr.size) (by rw [List.length_append, List.length_append, HT1.out, HT2.out, List.length_singleton]; omega);obtain ⟨a18, n18, c18, rfl⟩ := hr18.form;obtain ⟨d0, d1, d2, d3⟩ := BD8.f;clear hr12 hr13 hr18 hf13 hs13 hf18 hs18 hbx g_XD;simp only [dP1, dP0];go_wp2;rw [List.append_assoc, List.singleton_append] at hS8;exact ⟨rfl, .tuple #[], by simp [results, Tryz.results70, go_sem], k, _, rfl, HPUT.out, hS8, hF8, hG8⟩
     case z10 =>
      refine FT.flow_at hC rfl trivial (fun w9 hw9 K hK => ?_);go_simp;have hb9 := hbM.trans (Below.mono hw9 hbM.size);have hbN := hb9.alloc hb9.size (.cells #[.int .i64 X.A.x, .int .i64 X.A.y, .int .i64 X.B.x, .int .i64 X.B.y, .int .i64 X.K] 105);refine hK _ _ (regrown_of_below hbN) ?_;clear hK K;have hrM9 := (hrM.ee hw9).alloc (.cells #[.int .i64 X.A.x, .int .i64 X.A.y, .int .i64 X.B.x, .int .i64 X.B.y, .int .i64 X.K] 105);obtain ⟨bx, hbx0⟩ : ∃ bx, w9.heap.size = bx := ⟨_, rfl⟩;have hbx9 : Box (w9.alloc (.cells #[.int .i64 X.A.x, .int .i64 X.A.y, .int .i64 X.B.x, .int .i64 X.B.y, .int .i64 X.K] 105)) bx (cW X) 105 := by rw [← hbx0]; exact Box.new rfl
      have hne : ¬ Value.ownBlock (.slice (some ⟨w1.heap.size, 0, none⟩) 0 0) = some bx := fun e => by
       have h1 := Below.size hw9;have e2 : w1.heap.size = bx := by simpa [Value.ownBlock] using e
       simp at h1;omega
      rw [hbx0];clear hbx0;refine FT.flow_at hC rfl trivial (fun w2 hw2 K hK => ?_);have hb2 := hbN.trans (Below.mono hw2 hbN.size);refine zAf (by rfl) _ _ (by rfl) wx.heap.size _ [] (by rfl) (hrM9.ee hw2) _ k c (L.take k) (by rfl) HT1.out ((hrow.ee hb2).take k) hfl (fun e => ⟨by have h1 := (hz e).1; have h2 := HM.out; rw [h1] at h2; simp at h2; omega, (hz e).2⟩) (by simp; omega) (Below.size hb2) (some 35) (by rfl) ?_;intro w3 v12 hr12 hf12 hs12;rw [List.nil_append] at hr12;have hbW := hb2.trans (hf12.below (fun k e => ((hrM9.ee hw2).lt k e).1) hb2.size);have hbx := hf12.box (hbx9.ee hw2) hne;refine hK _ _ (regrown_of_below hbW) ?_;clear hK K;simp only [Act.put, sT2, sT1, sT0];refine FT.flow_at hC rfl trivial (fun w4 hw4 K hK => ?_);have hb4 := (upB hbW hw4);refine zAf (by rfl) _ _ (by rfl) wx.heap.size v12 (L.take k) (by rfl) (hr12.ee hw4) (some ⟨bx, 0, none⟩) 1 1 [X] (by rfl) rfl (zD1 (by simpa using hbx.ee hw4)) (zE3 _ _) (fun e => by cases e) (by rw [HT1.out]; omega) hb4.size (some 38) (by rfl) ?_;intro w5 v13 hr13 hf13 hs13;have hb5 := hb4.trans (hf13.below (fun k e => ((hr12.ee hw4).lt k e).1) hb4.size);refine hK _ _ (regrown_of_below hb5) ?_;clear hK K;simp only [Act.put, sT2, sT1, sT0];refine FT.flow_at hC rfl trivial (fun w6 hw6 K hK => ?_);have hb6 := (upB hb5 hw6);refine zAf (by rfl) _ _ (by rfl) wx.heap.size v13 (L.take k ++ [X]) (by rfl) (hr13.ee hw6) ad (n - k) (c - k) (L.drop k) (by rfl) HT2.out (hdr.ee hb6) hfl2 hnil (by rw [List.length_append, HT1.out]; simp; omega) hb6.size (some 45) (by rfl) ?_;intro w7 v18 hr18 hf18 hs18;have hb7 := hb6.trans (hf18.below (fun k e => ((hr13.ee hw6).lt k e).1) hb6.size);refine hK _ _ (regrown_of_below hb7) ?_;clear hK K;simp only [Act.put, sT2, sT1, sT0];intro w8 hw8;have hb8 := (upB hb7 hw8);have BD8 := BD.ee hb8;have hw8' := (upB hwr hb8);obtain ⟨hS8, hF8, hG8⟩ := zEz HS.out hw8' ((hr18.ee hw8).base hwr.size) (by rw [List.length_append, List.length_append, HT1.out, HT2.out, List.length_singleton]; omega);obtain ⟨a18, n18, c18, rfl⟩ := hr18.form;obtain ⟨d0, d1, d2, d3⟩ := BD8.f;clear hr12 hr13 hr18 hf13 hs13 hf18 hs18 hbx g_XD;simp only [dP1, dP0];go_wp2;rw [List.append_assoc, List.singleton_append] at hS8;exact ⟨rfl, .tuple #[], by simp [results, Tryz.results70, go_sem], k, _, rfl, HPUT.out, hS8, hF8, hG8⟩
    case y10 =>
     refine FT.flow_at hC rfl trivial (fun w9 hw9 K hK => ?_);go_simp;have hbN : Below wx.heap.size wx (w9.alloc (.cells #[.int .i64 X.A.x, .int .i64 X.A.y, .int .i64 X.B.x, .int .i64 X.B.y, .int .i64 X.K] 105)) := Below.alloc hw9 (Below.size hw9) _;refine hK _ _ (regrown_of_below hbN) ?_;clear hK K;obtain ⟨bx, hbx0⟩ : ∃ bx, w9.heap.size = bx := ⟨_, rfl⟩;have hbx9 : Box (w9.alloc (.cells #[.int .i64 X.A.x, .int .i64 X.A.y, .int .i64 X.B.x, .int .i64 X.B.y, .int .i64 X.K] 105)) bx (cW X) 105 := by rw [← hbx0]; exact Box.new rfl
     rw [hbx0];clear hbx0;refine FT.flow_at hC rfl trivial (fun w1 hw1 K hK => ?_);have hb1 := hbN.trans (Below.mono hw1 hbN.size);have hrM := zE1 w1 wx.heap.size hb1.size;go_simp;have hbM := hb1.alloc hb1.size (.cells #[] 105);refine hK _ _ (regrown_of_below hbM) ?_;clear hK K;have hbx1 := (hbx9.ee hw1).old (.cells #[] 105);have hne : ¬ Value.ownBlock (.slice (some ⟨w1.heap.size, 0, none⟩) 0 0) = some bx := fun e => by
      have h1 := (hbx9.ee hw1).lt;have e2 : w1.heap.size = bx := by simpa [Value.ownBlock] using e
      omega
     refine FT.flow_at hC rfl trivial (fun w2 hw2 K hK => ?_);have hb2 := hbM.trans (Below.mono hw2 hbM.size);refine zAf (by rfl) _ _ (by rfl) wx.heap.size _ [] (by rfl) (hrM.ee hw2) _ k c (L.take k) (by rfl) HT1.out ((hrow.ee hb2).take k) hfl (fun e => ⟨by have h1 := (hz e).1; have h2 := HM.out; rw [h1] at h2; simp at h2; omega, (hz e).2⟩) (by simp; omega) (Below.size hb2) (some 35) (by rfl) ?_;intro w3 v12 hr12 hf12 hs12;rw [List.nil_append] at hr12;have hbW := hb2.trans (hf12.below (fun k e => ((hrM.ee hw2).lt k e).1) hb2.size);have hbx := hf12.box (hbx1.ee hw2) hne;refine hK _ _ (regrown_of_below hbW) ?_;clear hK K;simp only [Act.put, sT2, sT1, sT0];refine FT.flow_at hC rfl trivial (fun w4 hw4 K hK => ?_);have hb4 := (upB hbW hw4);refine zAf (by rfl) _ _ (by rfl) wx.heap.size v12 (L.take k) (by rfl) (hr12.ee hw4) (some ⟨bx, 0, none⟩) 1 1 [X] (by rfl) rfl (zD1 (by simpa using hbx.ee hw4)) (zE3 _ _) (fun e => by cases e) (by rw [HT1.out]; omega) hb4.size (some 38) (by rfl) ?_;intro w5 v13 hr13 hf13 hs13;have hb5 := hb4.trans (hf13.below (fun k e => ((hr12.ee hw4).lt k e).1) hb4.size);refine hK _ _ (regrown_of_below hb5) ?_;clear hK K;simp only [Act.put, sT2, sT1, sT0];refine FT.flow_at hC rfl trivial (fun w6 hw6 K hK => ?_);have hb6 := (upB hb5 hw6);refine zAf (by rfl) _ _ (by rfl) wx.heap.size v13 (L.take k ++ [X]) (by rfl) (hr13.ee hw6) ad (n - k) (c - k) (L.drop k) (by rfl) HT2.out (hdr.ee hb6) hfl2 hnil (by rw [List.length_append, HT1.out]; simp; omega) hb6.size (some 45) (by rfl) ?_;intro w7 v18 hr18 hf18 hs18;have hb7 := hb6.trans (hf18.below (fun k e => ((hr13.ee hw6).lt k e).1) hb6.size);refine hK _ _ (regrown_of_below hb7) ?_;clear hK K;simp only [Act.put, sT2, sT1, sT0];intro w8 hw8;have hb8 := (upB hb7 hw8);have BD8 := BD.ee hb8;have hw8' := (upB hwr hb8);obtain ⟨hS8, hF8, hG8⟩ := zEz HS.out hw8' ((hr18.ee hw8).base hwr.size) (by rw [List.length_append, List.length_append, HT1.out, HT2.out, List.length_singleton]; omega);obtain ⟨a18, n18, c18, rfl⟩ := hr18.form;obtain ⟨d0, d1, d2, d3⟩ := BD8.f;clear hr12 hr13 hr18 hf13 hs13 hf18 hs18 hbx g_XD;simp only [dP1, dP0];go_wp2;rw [List.append_assoc, List.singleton_append] at hS8;exact ⟨rfl, .tuple #[], by simp [results, Tryz.results70, go_sem], k, _, rfl, HPUT.out, hS8, hF8, hG8⟩
end Go.Proofs.YtmobnmjjmafibaaGreat
namespace Go.Proofs.YtmobnmjjmafibaaGreat
open Go.RowKit Go.Sort
attribute [local go_sem] rOper rAt rUpon cell_set sg_i64 sg_u64 alloc_cell alloc_frozen
attribute [local go_sem 10000] pt_eql pt_neq tri_eql
attribute [local irreducible] rWalk
def badsD (E : Es) (W : List Wl) (D : Es) : List Wl := D.filterMap fun e => if decide (cmpP e.1.1 e.1.2 < 0) && badD E W e.1.1 e.1.2 then some ⟨e.1.1, e.1.2, 1⟩ else none
theorem zDh (E : Es) (W : List Wl) (D F : Es) : badsD E W (D ++ F) = badsD E W D ++ badsD E W F := by unfold badsD; rw [List.filterMap_append]
theorem zGq (E : Es) (W : List Wl) (u x : Pt) (T : Tri3) : badsD E W [((u, x), T)] = if (decide (cmpP u x < 0) && badD E W u x) = true then [⟨u, x, 1⟩] else [] := by
 unfold badsD;simp only [List.filterMap_cons, List.filterMap_nil];generalize (decide (cmpP u x < 0) && badD E W u x) = c
 cases c <;> rfl
theorem zIy (E : Es) (W : List Wl) (D : Es) : (badsD E W D).length ≤ D.length := List.length_filterMap_le _ _
theorem badsD_perm (E : Es) (W : List Wl) {D F : Es} (h : D.Perm F) : (badsD E W D).Perm (badsD E W F) := h.filterMap _
theorem badsD_kind {E : Es} {W : List Wl} {D : Es} {x : Wl} (h : x ∈ badsD E W D) : x.K = 1 := by
 unfold badsD at h;rw [List.mem_filterMap] at h;obtain ⟨e, _, he⟩ := h;split at he
 ·simp only [Option.some.injEq] at he; rw [← he]
 ·cases he
theorem zCk {L : List Wl} {X : Wl} (k : Nat) : (L.take k ++ X :: L.drop k).Perm (X :: L) := by
 refine (List.perm_middle).trans ?_;rw [List.take_append_drop]
theorem Frm.grown {w w' : World} {b : Nat} (h : Frm w w' (· = b)) : w.grownBy w' (some b) := ⟨h.os, h.tape, h.output, h.size, fun i hi hn => h.block i hi (fun e => hn (by rw [e]))⟩
def BadPost (E : Es) (W : List Wl) (w : World) (e : Ending) (w' : World) : Prop := ∃ a c L, e = .returned (.slice a L.length c) ∧ L.Perm (badsD E W E) ∧ RowAt cW 5 w' a L ∧ Below w.heap.size w w'
theorem rBad_any (mb b db : Nat) (a0 : Option Addr) (c n : Nat) (E : Es) (W : List Wl) (hE : E.length ≤ 100000) (hok : ∀ e ∈ E, okW e.1) (w : World) (Bm : Box w mb [.map (some b)] 41) (Hm : HoldsMap eW eT okW w b E) (Dw : DocRd w db a0 c n W) :
    Calls Tryz.prog 111 #[.pointer (some ⟨mb, 0, none⟩), .pointer (some ⟨db, 0, none⟩)] w (BadPost E W w) := by
 have cB := fun p q hk w B H D => zJg mb b db a0 c n E W p q hk w B H D;have Fm := Bm.f
 go_enter Tryz.func111, Tryz.ntmps111
 go_wp2_with (at_range; refine zAx _ rfl _ rfl kvR rfl (Hm.alloc _) ?_)
 intro w0 HR0 hw0 hs0;have So0 : DocAt w0 w.heap.size (.slice none 0 0) [] := ⟨(Box.new rfl).ext hw0 (by simp), World.ownsRow_nil _ _ _ _, by simp [Value.ownBlock], by simp⟩;replace hw0 : Below w.heap.size w w0 := ((Below.refl w.heap.size w).alloc (Nat.le_refl _) _).trans (hw0.mono (by simp));clear Fm;go_wp2
 go_loopw [] (fun wr => ∃ (D R : Es) (v : Value) (L : List Wl), Hid ((D ++ R).Perm E) ∧ Hid (L.Perm (badsD E W D)) ∧ DocAt wr w.heap.size v L ∧ Ranging eW eT okW wr b (w.heap.size + 1) E R ∧ Below w.heap.size w wr) (fun wr => wr.rangeLeft b (w.heap.size + 1))
 case atStart => exact ⟨[], E, _, [], Lib.hid (by simp), Lib.hid (.refl _), So0, by simpa using HR0, hw0⟩
 case round =>
  clear HR0 hw0 So0;obtain ⟨D, R, v, L, hD, hL, So, HR, hw⟩ := hrel;go_wp2_with (at_next; refine zB5 _ rfl _ rfl rfl HR ?_ ?_)
  ·intro hR;subst hR;have hp0 := Lib.hid (show L.Perm (badsD E W E) from hL.out.trans (badsD_perm E W (by simpa using hD.out)));obtain ⟨a, c', rfl, Dr, _⟩ := So.rd;have Fo := Dr.box.f;go_wp2
   go_ret
   exact ⟨a, c', L, rfl, hp0.out, Dr.row, hw⟩
  ·intro u x T R' w1 hperm HR1 hg1 hs1 hen;have hD2 := Lib.hid (show ((D ++ [((u, x), T)]) ++ R').Perm E by have := (hperm.append_left D).symm.trans hD.out; simpa using this);have hk : okW (u, x) := hok ((u, x), T) (hD2.out.mem_iff.1 (by simp));have So1 : DocAt w1 w.heap.size v L := ⟨So.box.grown1 hg1, So.row.kept hg1 (.inr (fun e => zAr So.row HR e.symm)), So.ne, So.le⟩;have hw1 := hw.grown hg1 hw.size (fun k hk => by cases hk; omega);have HL := Lib.hid (show w1.rangeLeft b (w.heap.size + 1) < wr.rangeLeft b (w.heap.size + 1) by rw [zA9 HR1, zA9 HR, hperm.length_eq]; simp);have hen2 : (Instr.entry (.pointer (some ⟨w.heap.size + 1, 0, none⟩))).run Tryz.prog w1 = .ok (.tuple #[.agg #[.int .i64 u.x, .int .i64 u.y, .int .i64 x.x, .int .i64 x.y], .agg #[.int .i64 T.A.x, .int .i64 T.A.y, .int .i64 T.B.x, .int .i64 T.B.y, .int .i64 T.C.x, .int .i64 T.C.y]]) w1 := hen;have hle : L.length < 1000000 := by have := hL.out.length_eq; have := zIy E W D; have := hD2.out.length_eq; simp at *; omega
   have hgk : ∀ X ∈ L, 0 ≤ X.K ∧ X.K ≤ 2 := fun X hX => by have := badsD_kind (hL.out.mem_iff.1 hX); omega
   have HB := Lib.hid hw1.size;clear So HR hg1 hs1 hen hperm hw;go_wp2_with fail;refine zA1 fun W2 hW => ?_;have Be : Box W2 w1.heap.size [.int .i64 u.x, .int .i64 u.y, .int .i64 x.x, .int .i64 x.y] 93 := by rw [hW]; exact Box.new rfl
   have hw2 : Below w1.heap.size w1 W2 := by rw [hW]; go_grown
   clear hW;have So2 := So1.ee hw2;have HR2 := HR1.ee hw2;have hwx := (upB hw1 hw2);have HL2 := Lib.hid (show W2.rangeLeft b (w.heap.size + 1) < wr.rangeLeft b (w.heap.size + 1) by rw [zA9 HR2, ← zA9 HR1]; exact HL.out);clear So1 HR1 hw1 hw2 HL HB;refine (zAb u x _).mono ?_;rintro e w3 ⟨rfl, hb⟩;replace Be := Be.ee hb;replace So2 := So2.ee hb;have HR3 := HR2.ee hb;replace hwx := upB hwx hb;have HL3 := Lib.hid (show w3.rangeLeft b (w.heap.size + 1) < wr.rangeLeft b (w.heap.size + 1) by rw [zA9 HR3, ← zA9 HR2]; exact HL2.out);have HF := Lib.hid (fun (h1 : decide (cmpP u x < 0) = false) => show L.Perm (badsD E W (D ++ [((u, x), T)])) by
    rw [zDh, zGq, h1, Bool.false_and, if_neg (by decide), List.append_nil]; exact hL.out)
   have HG := Lib.hid (fun (h1 : badD E W u x = false) => show L.Perm (badsD E W (D ++ [((u, x), T)])) by
    rw [zDh, zGq, h1, Bool.and_false, if_neg (by decide), List.append_nil]; exact hL.out)
   have HH := Lib.hid (fun (h1 : decide (cmpP u x < 0) = true) (h2 : badD E W u x = true) => show ∀ k, (L.take k ++ (⟨u, x, 1⟩ : Wl) :: L.drop k).Perm (badsD E W (D ++ [((u, x), T)])) from fun k => by
    rw [zDh, zGq, h1, h2, Bool.true_and, if_pos rfl];exact (zCk k).trans ((hL.out.cons _).trans (List.perm_append_comm (l₁ := [(⟨u, x, 1⟩ : Wl)]))))
   have hl6 : L.length + 1 ≤ 1000000 := hle;clear hb HR2 HL2 hL;have Fe := Be.f;cases h1 : decide (cmpP u x < 0) with
   | false =>
    have HQ := Lib.hid (HF.out h1);clear HF HG HH;go_wp2
    go_roundw
    case rel => exact ⟨D ++ [((u, x), T)], R', v, L, hD2, HQ, So2, HR3, hwx⟩
    case measure => exact HL3.out
   | true =>
    have HH := Lib.hid (HH.out h1);clear HF;go_wp2_with fail;refine (cB u x hk _ (Bm.ee hwx) HR3.holds (Dw.ee hwx)).mono ?_;rintro e w4 ⟨rfl, hb⟩;clear Fe;replace Be := Be.ee hb;have So4 := So2.ee hb;have HR4 := HR3.ee hb;have hw4 := (upB hwx hb);have HL4 := Lib.hid (show w4.rangeLeft b (w.heap.size + 1) < wr.rangeLeft b (w.heap.size + 1) by rw [zA9 HR4, ← zA9 HR3]; exact HL3.out);clear hb So2 HR3 hwx HL3;have Fe := Be.f;cases h2 : badD E W u x with
    | false =>
     have HQ := Lib.hid (HG.out h2);clear HG HH;go_wp2
     go_roundw
     case rel => exact ⟨D ++ [((u, x), T)], R', v, L, hD2, HQ, So4, HR4, hw4⟩
     case measure => exact HL4.out
    | true =>
     have HQ := Lib.hid (HH.out h2);clear HG HH h2;have cp := zCi w.heap.size v L ⟨u, x, 1⟩ hle hgk ⟨by show (0 : Int) ≤ 1; decide, by show (1 : Int) ≤ 2; decide⟩ w4 So4;go_wp2_with fail;refine cp.mono ?_;rintro e w5 ⟨k, v', rfl, hk5, So5, hf5, hv5⟩;have hg5 := hf5.grown;have HR5 := HR4.kept hg5 (fun e => So4.box.ne_map HR4.holds (Option.some.inj e).symm) (by simp);have hw5 := hf5.below (n := w.heap.size) (fun k hk => Nat.le_of_eq hk.symm) hw4.size;have HL5 := Lib.hid (show w5.rangeLeft b (w.heap.size + 1) < wr.rangeLeft b (w.heap.size + 1) by rw [zA9 HR5, ← zA9 HR4]; exact HL4.out);have HP := Lib.hid (HQ.out k);clear Fe cp HQ hf5 hg5;go_wp2
     go_roundw
     case rel => exact ⟨D ++ [((u, x), T)], R', v', _, hD2, HP, So5, HR5, hw4.trans hw5⟩
     case measure => exact HL5.out
attribute [local go_sem] rmap_nil
theorem zG4 (mb b : Nat) (E : Es) (T : Tri3) (hk : okT T) (w : World) (Bm : Box w mb [.map (some b)] 41) (Hm : HoldsMap eW eT okW w b E) :
    Calls Tryz.prog 85 #[.pointer (some ⟨mb, 0, none⟩), .agg #[.int .i64 T.A.x, .int .i64 T.A.y, .int .i64 T.B.x, .int .i64 T.B.y, .int .i64 T.C.x, .int .i64 T.C.y]] w fun e w' => e = .returned (.tuple #[]) ∧ w.grownBy w' (some b) ∧ HoldsMap eW eT okW w' b (takeT E T) := by
 have ce := zCc T
 go_enter Tryz.func85, Tryz.ntmps85
 go_wp2_with fail;refine zA1 fun W1 hW => ?_;obtain ⟨Bt, hw⟩ := N1 hW;clear hW;refine (ce _).mono ?_;rintro e w2 ⟨rfl, hb⟩;obtain ⟨Bt, hw, Ft⟩ := X1 Bt hw hb;clear hb;go_wp2_with fail;refine zA3 fun W3 hW => ?_;obtain ⟨bke, hbe⟩ : ∃ b, w2.heap.size = b := ⟨_, rfl⟩;rw [hbe];obtain ⟨lte, fe, Be, Bt, hw⟩ := M1 hW hbe Bt hw;clear hW hbe;have BM : Box W3 (mb) [.map (some b)] 41 := Bm.ee hw;refine wp_loop_rounds 5 ?_;have HF := Hm.ee hw;have hg : w.grownBy W3 (some b) := zA8 hw _;clear hw;try rw [rounds_succ]
 have Ft := Bt.f;have Fe := Be.f;have FM := BM.f;go_wp2_with fail;have hw : Below W3.heap.size W3 W3 := Below.refl _ _;have g_teM := J3 Bt.cells Be.cells BM.cells;refine wrt 7 (by kernel_rfl) (by kernel_rfl) ?_;simp only [tK1, tK0, dP1, dP0];repeat (first | (refine zA0 (Eq.refl false) ?_; simp only [Act.put, sT2, sT1, sT0]) | (refine rWalk_step (fun K hK => ?_); go_simp; refine hK _ ?_; clear hK K))
 refine rWalk_nil ?_;intro w4 hb;clear g_teM;clear Ft Fe FM;obtain ⟨Bt, Be, BM, hw, -⟩ := X3 Bt Be BM hw hb;replace HF := HF.ee hw;replace hg := zAc hg hw;clear hw;refine zDv _ rfl _ _ rfl kvR rfl HF (T.A, T.B) rfl (okT_w hk).1 ?_;intro c0 HG hh hs;replace Bt := Bt.turn HF hh;replace Be := Be.turn HF hh;replace BM := BM.turn HF hh;replace hg := zAh hg hh;clear HF hh hs;have HF := HG;clear HG;have Ft := Bt.f;have Fe := Be.f;have FM := BM.f;go_wp2_with fail;clear Ft Fe FM;try rw [rounds_succ]
 have Ft := Bt.f;have Fe := Be.f;have FM := BM.f;go_wp2_with fail;have hw : Below c0.heap.size c0 c0 := Below.refl _ _;have g_teM := J3 Bt.cells Be.cells BM.cells;refine wrt 7 (by kernel_rfl) (by kernel_rfl) ?_;simp only [tK1, tK0, dP1, dP0];repeat (first | (refine zA0 (Eq.refl false) ?_; simp only [Act.put, sT2, sT1, sT0]) | (refine rWalk_step (fun K hK => ?_); go_simp; refine hK _ ?_; clear hK K))
 refine rWalk_nil ?_;intro w5 hb;clear g_teM;clear Ft Fe FM;obtain ⟨Bt, Be, BM, hw, -⟩ := X3 Bt Be BM hw hb;replace HF := HF.ee hw;replace hg := zAc hg hw;clear hw;refine zDv _ rfl _ _ rfl kvR rfl HF (T.B, T.C) rfl (okT_w hk).2.1 ?_;intro c1 HG hh hs;replace Bt := Bt.turn HF hh;replace Be := Be.turn HF hh;replace BM := BM.turn HF hh;replace hg := zAh hg hh;clear HF hh hs;have HF := HG;clear HG;have Ft := Bt.f;have Fe := Be.f;have FM := BM.f;go_wp2_with fail;clear Ft Fe FM;try rw [rounds_succ]
 have Ft := Bt.f;have Fe := Be.f;have FM := BM.f;go_wp2_with fail;have hw : Below c1.heap.size c1 c1 := Below.refl _ _;have g_teM := J3 Bt.cells Be.cells BM.cells;refine wrt 7 (by kernel_rfl) (by kernel_rfl) ?_;simp only [tK1, tK0, dP1, dP0];repeat (first | (refine zA0 (Eq.refl false) ?_; simp only [Act.put, sT2, sT1, sT0]) | (refine rWalk_step (fun K hK => ?_); go_simp; refine hK _ ?_; clear hK K))
 refine rWalk_nil ?_;intro w6 hb;clear g_teM;clear Ft Fe FM;obtain ⟨Bt, Be, BM, hw, -⟩ := X3 Bt Be BM hw hb;replace HF := HF.ee hw;replace hg := zAc hg hw;clear hw;refine zDv _ rfl _ _ rfl kvR rfl HF (T.C, T.A) rfl (okT_w hk).2.2 ?_;intro c2 HG hh hs;replace Bt := Bt.turn HF hh;replace Be := Be.turn HF hh;replace BM := BM.turn HF hh;replace hg := zAh hg hh;clear HF hh hs;have HF := HG;clear HG;have Ft := Bt.f;have Fe := Be.f;have FM := BM.f;go_wp2_with fail;clear Ft Fe FM;try rw [rounds_succ]
 have Ft := Bt.f;have Fe := Be.f;have FM := BM.f;go_wp2;refine bodyPost_end (results_none rfl _ _ _) rfl ⟨rfl, hg, HF⟩
end Go.Proofs.YtmobnmjjmafibaaGreat
namespace Go.Proofs.YtmobnmjjmafibaaGreat
open Go.RowKit Go.Sort
attribute [local go_sem] rOper rAt rUpon cell_set sg_i64 sg_u64 alloc_cell alloc_frozen
attribute [local go_sem 10000] pt_eql pt_neq tri_eql
attribute [local irreducible] rWalk
theorem zJf (mb b : Nat) (E : Es) (p q : Pt) (hk : okW (p, q)) (S R U V : Tri3) (C D : Pt) (h0 : getE E (p, q) = some S) (h1 : getE E (q, p) = some R) (hC : apx S p q = C) (hD : apx R p q = D) (o1 : decide (ori p D C ≤ 0) = false) (o2 : decide (ori D q C ≤ 0) = false) (hU : mk p D C = U) (hV : mk D q C = V) (he : getE E (D, C) = none) (hf : getE E (C, D) = none) (hc : okW (C, D)) (hS : okT S) (hR : okT R) (hu : okT U) (hv : okT V) (f1 : freeE (takeT (takeT E S) R) U = true) (f2 : freeE (putT (takeT (takeT E S) R) U) V = true) (w : World) (Bm : Box w mb [.map (some b)] 41) (Hm : HoldsMap eW eT okW w b E) :
    Calls Tryz.prog 44 #[.pointer (some ⟨mb, 0, none⟩), .agg #[.int .i64 p.x, .int .i64 p.y], .agg #[.int .i64 q.x, .int .i64 q.y]] w fun e w' => e = .returned (.int .i64 0) ∧ w.grownBy w' (some b) ∧ HoldsMap eW eT okW w' b (putT (putT (takeT (takeT E S) R) U) V) := by
 have cl := zAa mb b E p q hk;have cr := zAa mb b E q p ⟨hk.2, hk.1⟩;rw [zAi h0] at cl;rw [zAi h1] at cr;clear h0 h1;have ca := zBy S p q;have cb := zBy R p q;have c1 := zA4 p D C;have c2 := zA4 D q C;rw [hC] at ca;rw [hD] at cb;have cu := zB7 p D C;have cv := zB7 D q C;rw [hU] at cu;rw [hV] at cv;have ce := zAa mb b E D C ⟨hc.2, hc.1⟩;have cf := zAa mb b E C D hc;rw [zB3 he] at ce;rw [zB3 hf] at cf;have t1 := zG4 mb b E S hS;have t2 := zG4 mb b (takeT E S) R hR;have p1 := zG5 mb b (takeT (takeT E S) R) U f1 hu;have p2 := zG5 mb b (putT (takeT (takeT E S) R) U) V f2 hv;clear hU hV hC hD he hf hS hR hu hv f1 f2 hc
 go_enter Tryz.func44, Tryz.ntmps44
 go_wp2_with fail;refine zA1 fun W1 hW => ?_;obtain ⟨Bp, Bq, hw⟩ := N2 hW;clear hW;refine (cl _ (Bm.ee hw) (Hm.ee hw)).mono ?_;rintro e w2 ⟨rfl, hb⟩;obtain ⟨Bp, Bq, hw, -⟩ := X2 Bp Bq hw hb;clear hb;have Fp := Bp.f;have Fq := Bq.f;go_wp2_with fail;clear Fp Fq;refine zA1 fun W3 hW => ?_;obtain ⟨bks, hbs⟩ : ∃ b, w2.heap.size = b := ⟨_, rfl⟩;rw [hbs];obtain ⟨lps, lqs, fs, Bs, Bp, Bq, hw⟩ := M2 hW hbs Bp Bq hw;clear hW hbs;refine (cr _ (Bm.ee hw) (Hm.ee hw)).mono ?_;rintro e w4 ⟨rfl, hb⟩;obtain ⟨Bp, Bq, Bs, hw, -⟩ := X3 Bp Bq Bs hw hb;clear hb;have Fp := Bp.f;have Fq := Bq.f;have Fs := Bs.f;go_wp2_with fail;clear Fp Fq Fs;refine zA3 fun W5 hW => ?_;obtain ⟨bkr, hbr⟩ : ∃ b, w4.heap.size = b := ⟨_, rfl⟩;rw [hbr];obtain ⟨lpr, lqr, lsr, fr, Br, Bp, Bq, Bs, hw⟩ := M3 hW hbr Bp Bq Bs hw;clear hW hbr;have g_pqsr := J4 Bp.cells Bq.cells Bs.cells Br.cells;refine zAu 10 [⟨8, 11, 30, [.int .i64 0, .int .i64 0]⟩, ⟨9, 12, 30, [.int .i64 0, .int .i64 0]⟩] ?_ (by kernel_rfl) (by decide) (by decide) (by kernel_rfl) (by decide) (C := fun w' => ∃ p : Regrown, w' = grow (redrawn W5 p.d) p.os) rgB ?_
 ·simp only [List.forall_mem_cons];refine ⟨⟨_, rfl, rfl, rfl, rfl, fun ρ W => by simp [execOp, go_sem]⟩, ⟨_, rfl, rfl, rfl, rfl, fun ρ W => by simp [execOp, go_sem]⟩, fun _ h => (by cases h)⟩
 simp only [List.take_succ_cons, List.take_zero, List.map_cons, List.map_nil, dropIdx, List.contains_cons, List.contains_nil, Nat.reduceBEq, Nat.reduceAdd, Bool.or_false, Bool.or_true, Bool.or_self, Bool.false_eq_true, if_true, if_false];repeat (first | (refine zA0 (Eq.refl false) ?_; simp only [Act.put, sT2, sT1, sT0]) | (refine rWalk_step (fun K hK => ?_); go_simp; first | (refine hK _ ?_; clear hK K) | (apply Exists.intro; refine ⟨fun _ => ?_, hK _ ?_⟩; (first | with_reducible exact toExt ca _ | with_reducible exact toExt cb _); clear hK K)))
 refine rWalk_nil ?_;intro w6 β hL;simp only [putD, List.drop_succ_cons, List.drop_zero];have qc := hL.box ⟨8, 11, 30, [.int .i64 0, .int .i64 0]⟩ (by simp) (by simp);simp only at qc;have qd := hL.box ⟨9, 12, 30, [.int .i64 0, .int .i64 0]⟩ (by simp) (by simp);simp only at qd;have ncd := hL.apart 11 (by simp) 12 (by simp) (by decide);have ndc := hL.apart 12 (by simp) 11 (by simp) (by decide);have hb := hL.below;have lp := Bp.lt;have lq := Bq.lt;have ls := Bs.lt;have lr := Br.lt;clear g_pqsr;replace Bp := Bp.ee hb;replace Bq := Bq.ee hb;replace Bs := Bs.ee hb;replace Br := Br.ee hb;have hw0 := hw.size;replace hw := upB hw hb;clear hb hL;generalize β 11 = bkc at *
 generalize β 12 = bkd at *
 clear β;obtain ⟨fc, Bc⟩ := qc;obtain ⟨fd, Bd⟩ := qd;simp only [Act.put];have Fc := Bc.f;have Fd := Bd.f;have Fp := Bp.f;have Fq := Bq.f;have Fs := Bs.f;have Fr := Br.f;have epbkc : (w.heap.size = bkc) = False := by simp; omega
 have epbkc' : (bkc = w.heap.size) = False := by simp; omega
 have epbkd : (w.heap.size = bkd) = False := by simp; omega
 have epbkd' : (bkd = w.heap.size) = False := by simp; omega
 have eqbkc : (w.heap.size + 1 = bkc) = False := by simp; omega
 have eqbkc' : (bkc = w.heap.size + 1) = False := by simp; omega
 have eqbkd : (w.heap.size + 1 = bkd) = False := by simp; omega
 have eqbkd' : (bkd = w.heap.size + 1) = False := by simp; omega
 have esbkc : (bks = bkc) = False := by simp; omega
 have esbkc' : (bkc = bks) = False := by simp; omega
 have esbkd : (bks = bkd) = False := by simp; omega
 have esbkd' : (bkd = bks) = False := by simp; omega
 have erbkc : (bkr = bkc) = False := by simp; omega
 have erbkc' : (bkc = bkr) = False := by simp; omega
 have erbkd : (bkr = bkd) = False := by simp; omega
 have erbkd' : (bkd = bkr) = False := by simp; omega
 have ebkcbkd : (bkc = bkd) = False := by simp; omega
 have ebkdbkc : (bkd = bkc) = False := by simp; omega
 go_wp2_with fail;refine zA1 fun W7 hW => ?_;have Cp : Box W7 (w.heap.size) [.int .i64 p.x, .int .i64 p.y] 30 := by rw [hW]; exact ((((Bp.sn bkc 0 (.int .i64 C.x) (by first | assumption | omega)).sn bkc 1 (.int .i64 C.y) (by first | assumption | omega)).sn bkd 0 (.int .i64 D.x) (by first | assumption | omega)).sn bkd 1 (.int .i64 D.y) (by first | assumption | omega))
 have Cq : Box W7 (w.heap.size + 1) [.int .i64 q.x, .int .i64 q.y] 30 := by rw [hW]; exact ((((Bq.sn bkc 0 (.int .i64 C.x) (by first | assumption | omega)).sn bkc 1 (.int .i64 C.y) (by first | assumption | omega)).sn bkd 0 (.int .i64 D.x) (by first | assumption | omega)).sn bkd 1 (.int .i64 D.y) (by first | assumption | omega))
 have Cs : Box W7 (bks) [.int .i64 S.A.x, .int .i64 S.A.y, .int .i64 S.B.x, .int .i64 S.B.y, .int .i64 S.C.x, .int .i64 S.C.y] 38 := by rw [hW]; exact ((((Bs.sn bkc 0 (.int .i64 C.x) (by first | assumption | omega)).sn bkc 1 (.int .i64 C.y) (by first | assumption | omega)).sn bkd 0 (.int .i64 D.x) (by first | assumption | omega)).sn bkd 1 (.int .i64 D.y) (by first | assumption | omega))
 have Cr : Box W7 (bkr) [.int .i64 R.A.x, .int .i64 R.A.y, .int .i64 R.B.x, .int .i64 R.B.y, .int .i64 R.C.x, .int .i64 R.C.y] 38 := by rw [hW]; exact ((((Br.sn bkc 0 (.int .i64 C.x) (by first | assumption | omega)).sn bkc 1 (.int .i64 C.y) (by first | assumption | omega)).sn bkd 0 (.int .i64 D.x) (by first | assumption | omega)).sn bkd 1 (.int .i64 D.y) (by first | assumption | omega))
 have Cc : Box W7 (bkc) [.int .i64 C.x, .int .i64 C.y] 30 := by rw [hW]; exact ((((Bc.set 0 (.int .i64 C.x)).set 1 (.int .i64 C.y)).sn bkd 0 (.int .i64 D.x) (by first | assumption | omega)).sn bkd 1 (.int .i64 D.y) (by first | assumption | omega))
 have Cd : Box W7 (bkd) [.int .i64 D.x, .int .i64 D.y] 30 := by rw [hW]; exact ((((Bd.sn bkc 0 (.int .i64 C.x) (by first | assumption | omega)).sn bkc 1 (.int .i64 C.y) (by first | assumption | omega)).set 0 (.int .i64 D.x)).set 1 (.int .i64 D.y))
 replace hw : Below w.heap.size w W7 := by have hl := hw.size; rw [hW]; go_grown
 clear Fc Fd;clear Fp Fq Fs Fr epbkc epbkc' epbkd epbkd' eqbkc eqbkc' eqbkd eqbkd' esbkc esbkc' esbkd esbkd' erbkc erbkc' erbkd erbkd' ebkcbkd ebkdbkc;clear hW Bp Bq Bs Br Bc Bd;have Bp := Cp;have Bq := Cq;have Bs := Cs;have Br := Cr;have Bc := Cc;have Bd := Cd;clear Cp Cq Cs Cr Cc Cd;refine (c1 _).mono ?_;rintro e w8 ⟨rfl, hb⟩;obtain ⟨Bp, Bq, Bs, Br, Bc, Bd, hw, -⟩ := X6 Bp Bq Bs Br Bc Bd hw hb;clear hb;have Fp := Bp.f;have Fq := Bq.f;have Fs := Bs.f;have Fr := Br.f;have Fc := Bc.f;have Fd := Bd.f;go_wp2_with fail;refine (c2 _).mono ?_;rintro e w9 ⟨rfl, hb⟩;clear Fp Fq Fs Fr Fc Fd;obtain ⟨Bp, Bq, Bs, Br, Bc, Bd, hw, -⟩ := X6 Bp Bq Bs Br Bc Bd hw hb;clear hb;have Fp := Bp.f;have Fq := Bq.f;have Fs := Bs.f;have Fr := Br.f;have Fc := Bc.f;have Fd := Bd.f;go_wp2_with fail;refine (cu _).mono ?_;rintro e w10 ⟨rfl, hb⟩;clear Fp Fq Fs Fr Fc Fd;obtain ⟨Bp, Bq, Bs, Br, Bc, Bd, hw, -⟩ := X6 Bp Bq Bs Br Bc Bd hw hb;clear hb;have Fp := Bp.f;have Fq := Bq.f;have Fs := Bs.f;have Fr := Br.f;have Fc := Bc.f;have Fd := Bd.f;go_wp2_with fail;clear Fp Fq Fs Fr Fc Fd;refine zA1 fun W11 hW => ?_;obtain ⟨bku, hbu⟩ : ∃ b, w10.heap.size = b := ⟨_, rfl⟩;rw [hbu];obtain ⟨lpu, lqu, lsu, lru, lcu, ldu, fu, Bu, Bp, Bq, Bs, Br, Bc, Bd, hw⟩ := M6 hW hbu Bp Bq Bs Br Bc Bd hw;clear hW hbu;refine (cv _).mono ?_;rintro e w12 ⟨rfl, hb⟩;obtain ⟨Bp, Bq, Bs, Br, Bc, Bd, Bu, hw, -⟩ := X7 Bp Bq Bs Br Bc Bd Bu hw hb;clear hb;have Fp := Bp.f;have Fq := Bq.f;have Fs := Bs.f;have Fr := Br.f;have Fc := Bc.f;have Fd := Bd.f;have Fu := Bu.f;go_wp2_with fail;clear Fp Fq Fs Fr Fc Fd Fu;refine zA1 fun W13 hW => ?_;obtain ⟨bkv, hbv⟩ : ∃ b, w12.heap.size = b := ⟨_, rfl⟩;rw [hbv];obtain ⟨lpv, lqv, lsv, lrv, lcv, ldv, luv, fv, Bv, Bp, Bq, Bs, Br, Bc, Bd, Bu, hw⟩ := M7 hW hbv Bp Bq Bs Br Bc Bd Bu hw;clear hW hbv;refine (ce _ (Bm.ee hw) (Hm.ee hw)).mono ?_;rintro e w14 ⟨rfl, hb⟩;obtain ⟨Bp, Bq, Bs, Br, Bc, Bd, Bu, Bv, hw, -⟩ := X8 Bp Bq Bs Br Bc Bd Bu Bv hw hb;clear hb;have Fp := Bp.f;have Fq := Bq.f;have Fs := Bs.f;have Fr := Br.f;have Fc := Bc.f;have Fd := Bd.f;have Fu := Bu.f;have Fv := Bv.f;go_wp2_with fail;clear Fp Fq Fs Fr Fc Fd Fu Fv;refine zA1 fun W15 hW => ?_;obtain ⟨bko, hbo⟩ : ∃ b, w14.heap.size = b := ⟨_, rfl⟩;rw [hbo];obtain ⟨lpo, lqo, lso, lro, lco, ldo, luo, lvo, fo, Bo, Bp, Bq, Bs, Br, Bc, Bd, Bu, Bv, hw⟩ := M8 hW hbo Bp Bq Bs Br Bc Bd Bu Bv hw;clear hW hbo;refine (cf _ (Bm.ee hw) (Hm.ee hw)).mono ?_;rintro e w16 ⟨rfl, hb⟩;obtain ⟨Bp, Bq, Bs, Br, Bc, Bd, Bu, Bv, Bo, hw, -⟩ := X9 Bp Bq Bs Br Bc Bd Bu Bv Bo hw hb;clear hb;have Fp := Bp.f;have Fq := Bq.f;have Fs := Bs.f;have Fr := Br.f;have Fc := Bc.f;have Fd := Bd.f;have Fu := Bu.f;have Fv := Bv.f;have Fo := Bo.f;go_wp2_with fail;clear Fp Fq Fs Fr Fc Fd Fu Fv Fo;refine zA1 fun W17 hW => ?_;obtain ⟨bkk, hbk⟩ : ∃ b, w16.heap.size = b := ⟨_, rfl⟩;rw [hbk];have lpk := Bp.lt;rw [hbk] at lpk;have lqk := Bq.lt;rw [hbk] at lqk;have lsk := Bs.lt;rw [hbk] at lsk;have lrk := Br.lt;rw [hbk] at lrk;have lck := Bc.lt;rw [hbk] at lck;have ldk := Bd.lt;rw [hbk] at ldk;have luk := Bu.lt;rw [hbk] at luk;have lvk := Bv.lt;rw [hbk] at lvk;have lok := Bo.lt;rw [hbk] at lok;have fk := hw.size;rw [hbk] at fk;have Bk : Box W17 bkk [.int .i64 0, .int .i64 0, .int .i64 0, .int .i64 0, .int .i64 0, .int .i64 0] 38 := by rw [hW]; exact Box.new hbk.symm
 replace Bp : Box W17 (w.heap.size) [.int .i64 p.x, .int .i64 p.y] 30 := by rw [hW]; exact Bp.old _
 replace Bq : Box W17 (w.heap.size + 1) [.int .i64 q.x, .int .i64 q.y] 30 := by rw [hW]; exact Bq.old _
 replace Bs : Box W17 (bks) [.int .i64 S.A.x, .int .i64 S.A.y, .int .i64 S.B.x, .int .i64 S.B.y, .int .i64 S.C.x, .int .i64 S.C.y] 38 := by rw [hW]; exact Bs.old _
 replace Br : Box W17 (bkr) [.int .i64 R.A.x, .int .i64 R.A.y, .int .i64 R.B.x, .int .i64 R.B.y, .int .i64 R.C.x, .int .i64 R.C.y] 38 := by rw [hW]; exact Br.old _
 replace Bc : Box W17 (bkc) [.int .i64 C.x, .int .i64 C.y] 30 := by rw [hW]; exact Bc.old _
 replace Bd : Box W17 (bkd) [.int .i64 D.x, .int .i64 D.y] 30 := by rw [hW]; exact Bd.old _
 replace Bu : Box W17 (bku) [.int .i64 U.A.x, .int .i64 U.A.y, .int .i64 U.B.x, .int .i64 U.B.y, .int .i64 U.C.x, .int .i64 U.C.y] 38 := by rw [hW]; exact Bu.old _
 replace Bv : Box W17 (bkv) [.int .i64 V.A.x, .int .i64 V.A.y, .int .i64 V.B.x, .int .i64 V.B.y, .int .i64 V.C.x, .int .i64 V.C.y] 38 := by rw [hW]; exact Bv.old _
 replace Bo : Box W17 (bko) [.int .i64 0, .int .i64 0, .int .i64 0, .int .i64 0, .int .i64 0, .int .i64 0] 38 := by rw [hW]; exact Bo.old _
 replace hw : Below w.heap.size w W17 := by have hl := hw.size; rw [hW]; go_grown
 clear hW hbk;have BM := Bm.ee hw;have HF := Hm.ee hw;have hg : w.grownBy W17 (some b) := zA8 hw _;clear hw Bm Hm;refine (t1 _ BM HF).mono ?_;rintro e c18 ⟨rfl, hh, HG⟩;replace Bp := Bp.turn HF hh;replace Bq := Bq.turn HF hh;replace Bs := Bs.turn HF hh;replace Br := Br.turn HF hh;replace Bc := Bc.turn HF hh;replace Bd := Bd.turn HF hh;replace Bu := Bu.turn HF hh;replace Bv := Bv.turn HF hh;replace Bo := Bo.turn HF hh;replace Bk := Bk.turn HF hh;replace BM := BM.turn HF hh;replace hg := zAh hg hh;clear HF hh;have HF := HG;clear HG;have Fp := Bp.f;have Fq := Bq.f;have Fs := Bs.f;have Fr := Br.f;have Fc := Bc.f;have Fd := Bd.f;have Fu := Bu.f;have Fv := Bv.f;have Fo := Bo.f;have Fk := Bk.f;go_wp2_with fail;refine (t2 _ BM HF).mono ?_;rintro e c19 ⟨rfl, hh, HG⟩;clear Fp Fq Fs Fr Fc Fd Fu Fv Fo Fk;replace Bp := Bp.turn HF hh;replace Bq := Bq.turn HF hh;replace Bs := Bs.turn HF hh;replace Br := Br.turn HF hh;replace Bc := Bc.turn HF hh;replace Bd := Bd.turn HF hh;replace Bu := Bu.turn HF hh;replace Bv := Bv.turn HF hh;replace Bo := Bo.turn HF hh;replace Bk := Bk.turn HF hh;replace BM := BM.turn HF hh;replace hg := zAh hg hh;clear HF hh;have HF := HG;clear HG;have Fp := Bp.f;have Fq := Bq.f;have Fs := Bs.f;have Fr := Br.f;have Fc := Bc.f;have Fd := Bd.f;have Fu := Bu.f;have Fv := Bv.f;have Fo := Bo.f;have Fk := Bk.f;go_wp2_with fail;refine (p1 _ BM HF).mono ?_;rintro e c20 ⟨rfl, hh, HG⟩;clear Fp Fq Fs Fr Fc Fd Fu Fv Fo Fk;replace Bp := Bp.turn HF hh;replace Bq := Bq.turn HF hh;replace Bs := Bs.turn HF hh;replace Br := Br.turn HF hh;replace Bc := Bc.turn HF hh;replace Bd := Bd.turn HF hh;replace Bu := Bu.turn HF hh;replace Bv := Bv.turn HF hh;replace Bo := Bo.turn HF hh;replace Bk := Bk.turn HF hh;replace BM := BM.turn HF hh;replace hg := zAh hg hh;clear HF hh;have HF := HG;clear HG;have Fp := Bp.f;have Fq := Bq.f;have Fs := Bs.f;have Fr := Br.f;have Fc := Bc.f;have Fd := Bd.f;have Fu := Bu.f;have Fv := Bv.f;have Fo := Bo.f;have Fk := Bk.f;go_wp2_with fail;refine (p2 _ BM HF).mono ?_;rintro e w99 ⟨rfl, hh, HG⟩;clear Fp Fq Fs Fr Fc Fd Fu Fv Fo Fk;replace hg := zAh hg hh;go_wp2
 go_ret
 exact ⟨rfl, hg, HG⟩
end Go.Proofs.YtmobnmjjmafibaaGreat
