/- Put together: MesJ, MesK, Sub, Mrg, ReA, SortR. -/
import Derived.Test.YtaegobkkcgheeaaRows
import Derived.Test.YtaegobkkcgheeaaPut13
import Derived.Test.YtaegobkkcgheeaaPut23
import Derived.Test.YtaegobkkcgheeaaPut1
import Derived.WalkKit
import Derived.WalkSpells
import Derived.WalkLawsBesides
import Derived.Laws.Externs
import Derived.Deep.QuietTactic
import Derived.BigQuiet
import Derived.Lib.Hide
import Derived.Handy
import Derived.OwnWalk
import Derived.Maps.RangeWalk
import Derived.LoopN
import Derived.RegionTactic
import Derived.Deep.Slices
import Derived.Test.YtaegobkkcgheeaaPut21
import Derived.Test.YtaegobkkcgheeaaPut18
namespace Go.Proofs.Ytaegobkkcgheeaa
open Go.RowKit Go.Sort
attribute [local go_sem] rOper rAt rUpon cell_set sg_i64 sg_u64 alloc_cell alloc_frozen
attribute [local go_sem 10000] pt_eql pt_neq tri_eql
attribute [local irreducible] rWalk

theorem info_tri : (Try.prog.info? 25).map (fun i => (i.zero, i.size, i.bytes)) = some (some (.agg #[.int .i64 0, .int .i64 0, .int .i64 0, .int .i64 0, .int .i64 0, .int .i64 0]), 6, 48) := by kernel_rfl
/-- One triangle appended to a row of the call's own. -/
theorem append_tri {w : World} {ops : Array Oper} {rest : List Oper} {o : Oper} {a : Act} {Q : Exit → Act → World → Prop} (hgd : o.guard = none) (s x : Operand)
    (ho : o.op = .call { callee := .builtin .append, args := #[s, x], argTypes := #[42, 42] })
    (B : Nat) (v : Value) (L : List Tri3) (hs : a.eval s = v) (hown : w.ownsRow B 25 6 v L.length (L.flatMap cT))
    (bx : Nat) (T : Tri3) (hx : a.eval x = .slice (some ⟨bx, 0, none⟩) 1 1) (hbx : Box w bx (cT T) 25) (hn : L.length ≤ 1000000) (hbase : B ≤ w.heap.size)
    (h : ∀ w' v', w'.ownsRow B 25 6 v' (L ++ [T]).length ((L ++ [T]).flatMap cT) → w.grownBy w' v.ownBlock → wpList Try.prog ops Q rest (a.put o.dst v') w') : wpList Try.prog ops Q (o :: rest) a w := by
  obtain ⟨i0, hi, hz0, hz1, hz2⟩ := info_parts info_tri
  refine wpList_append_own w hgd s x 42 ho B 25 i0 _ 6 48 Try.underlying42 hi hz0 hz1 hz2 rfl (by decide) v L.length _ hs hown ⟨bx, 0, none⟩ 1 1 (cT T) hx rfl ?_ (cT_one T) ?_ ?_ hbase ?_
  · intro j u hj
    have := hbx.facts.1 j
    rw [hj] at this
    rw [Addr.add_lit, Nat.zero_add]
    exact this
  · unfold maxLen; omega
  · omega
  · intro v' w' hown' hg _
    refine h w' v' ?_ hg
    rw [List.length_append, List.length_singleton, List.flatMap_append]
    simpa using hown'
/-- The triangles of some pairs that stand at their first way, as far as they are asked for. -/
def heads (p : Tri3 → Bool) (E : Es) : List Tri3 := (E.filter fun e => decide (e.1.1 = e.2.A) && p e.2).map (·.2)
theorem heads_perm {p : Tri3 → Bool} {E F : Es} (h : E.Perm F) : (heads p E).Perm (heads p F) := (h.filter _).map _
theorem heads_append (p : Tri3 → Bool) (E F : Es) : heads p (E ++ F) = heads p E ++ heads p F := by unfold heads; rw [List.filter_append, List.map_append]
theorem heads_len (p : Tri3 → Bool) (E : Es) : (heads p E).length ≤ E.length := by unfold heads; rw [List.length_map]; exact List.length_filter_le _ _
theorem heads_yes {p : Tri3 → Bool} {e : (Pt × Pt) × Tri3} (h : e.1.1 = e.2.A) (hp : p e.2 = true) : heads p [e] = [e.2] := by simp [heads, h, hp]
theorem heads_no {p : Tri3 → Bool} {e : (Pt × Pt) × Tri3} (h : ¬ (e.1.1 = e.2.A ∧ p e.2 = true)) : heads p [e] = [] := by
  unfold heads
  rw [List.filter_cons_of_neg]
  · rfl
  · simpa using h
theorem ownsRow_row {w : World} {B k : Nat} {T : TypeId} {v : Value} {n : Nat} {xs : List Value} (h : w.ownsRow B T k v n xs) : ∀ g, v.ownBlock = some g → ∃ cs T', w.heap[g]? = some (.cells cs T' (0, 0)) := fun g hg => by
  rcases h.2 with ⟨rfl, _⟩ | ⟨g', cap, cur, rfl, _, hb, _⟩
  · simp [Value.ownBlock] at hg
  · simp [Value.ownBlock] at hg
    subst hg
    exact ⟨_, _, hb⟩
theorem own_ne_map {w : World} {B k b : Nat} {T : TypeId} {v : Value} {n : Nat} {xs : List Value} {E : Es} (h : w.ownsRow B T k v n xs) (H : HoldsMap eW eT okW w b E) : some b ≠ v.ownBlock := fun e => by
  obtain ⟨cs, T', hc⟩ := ownsRow_row h b e.symm
  obtain ⟨es, clock, hb, _⟩ := H
  rw [hb] at hc; cases hc
theorem own_ne_iter {w : World} {B k b r : Nat} {T : TypeId} {v : Value} {n : Nat} {xs : List Value} {E R : Es} (h : w.ownsRow B T k v n xs) (H : Ranging eW eT okW w b r E R) : some r ≠ v.ownBlock := fun e => by
  obtain ⟨cs, T', hc⟩ := ownsRow_row h r e.symm
  obtain ⟨es, clock, _, _, _, _, _, _, _, _, hr, _⟩ := H
  rw [hr] at hc; cases hc
/-- How many are still to come, read off the world. -/
def leftAt (w : World) (b r : Nat) : Nat := w.rangeLeft b r
theorem left_is {w : World} {b r : Nat} {E R : Es} (H : Ranging eW eT okW w b r E R) : w.rangeLeft b r = R.length := by
  obtain ⟨es, clock, since, seen, c0, hb, _, _, _, _, hr, _, hl, _⟩ := H
  simp only [World.rangeLeft, hb, hr]
  have := hl.length_eq
  simpa using this
end Go.Proofs.Ytaegobkkcgheeaa

namespace Go.Proofs.Ytaegobkkcgheeaa
open Go.RowKit Go.Sort
attribute [local go_sem] rOper rAt rUpon cell_set sg_i64 sg_u64 alloc_cell alloc_frozen
attribute [local go_sem 10000] pt_eql pt_neq tri_eql
attribute [local irreducible] rWalk

set_option maxRecDepth 100000 in
set_option maxHeartbeats 2000000 in
theorem those_any (mb b : Nat) (E : Es) (g : FuncId) (cb : Array Value) (p : Tri3 → Bool) (hE : E.length ≤ 1000000) (w : World) (Bm : Box w mb [.map (some b)] 65) (Hm : HoldsMap eW eT okW w b E)
    (eg : ∀ args w, (callFunc g args).run Try.prog w = .ok (.enter g args) w)
    (hp : ∀ (T : Tri3) (W : World), Below w.heap.size w W → Calls Try.prog g (#[.agg #[.int .i64 T.A.x, .int .i64 T.A.y, .int .i64 T.B.x, .int .i64 T.B.y, .int .i64 T.C.x, .int .i64 T.C.y]] ++ cb) W fun e w' => e = .returned (.bool (p T)) ∧ Below W.heap.size W w') :
    Calls Try.prog 54 #[.pointer (some ⟨mb, 0, none⟩), .func (.func g) #[] cb] w fun e w' => ∃ a cap, e = .returned (.slice a (srt cmpT (heads p E)).length cap) ∧ RowAt cT 6 w' a (srt cmpT (heads p E)) ∧ Below w.heap.size w w' := by
  obtain ⟨xm, ym, zm, vm⟩ := Bm.facts
  go_enter Try.func54, Try.ntmps54
  go_wp2_with (at_range; refine wpList_mrange _ rfl _ rfl kvM rfl Hm ?_)
  intro w0 HR0 hw0 _
  clear xm ym zm vm
  go_wp2
  go_loopw [5] (fun v wr => ∃ D R : Es, Hid ((D ++ R).Perm E) ∧ wr.ownsRow w.heap.size 25 6 v (heads p D).length ((heads p D).flatMap cT) ∧ Ranging eW eT okW wr b w.heap.size E R ∧ Below w.heap.size w wr) (fun _ wr => wr.rangeLeft b w.heap.size)
  case atStart => exact ⟨[], E, Lib.hid (by simp), World.ownsRow_nil _ _ _ _, HR0, hw0⟩
  case round =>
    clear HR0 hw0
    obtain ⟨D, R, hD, hown, HR, hw⟩ := hrel
    go_wp2_with (at_next; refine wpList_mnext _ rfl _ rfl rfl HR ?_ ?_)
    · intro hR
      subst hR
      have hp0 : (heads p D).Perm (heads p E) := heads_perm (by simpa using hD.out)
      have hle : (heads p D).length ≤ 3000000 := by have := hp0.length_eq; have := heads_len p E; omega
      have HS := Lib.hid (wholeT.srt_of_perm hp0)
      go_wp2_with fail
      refine (sortT_any _ _ _ hle _ hown).mono ?_
      rintro e w2 ⟨rfl, hg2, a, cap, rfl, hr⟩
      go_wp2
      go_ret
      have hlen : (heads p D).length = (srt cmpT (heads p E)).length := by rw [← HS.out]; exact (srt_perm _).length_eq.symm
      rw [HS.out] at hr
      refine ⟨a, cap, by rw [hlen]; rfl, hr, hw.grown hg2 hw.size (fun k hk => ?_)⟩
      exact (hown.lt k hk).1
    · intro u x T R' w1 hperm HR1 hg1 hs1 hen
      have hD2 := Lib.hid (show ((D ++ [((u, x), T)]) ++ R').Perm E by have := (hperm.append_left D).symm.trans hD.out; simpa using this)
      have own1 := hown.kept hg1 (.inr (fun e => own_ne_iter hown HR e.symm))
      have hw1 := hw.grown hg1 hw.size (fun k hk => by cases hk; exact Nat.le_refl _)
      have HL := Lib.hid (show w1.rangeLeft b w.heap.size < wr.rangeLeft b w.heap.size by rw [left_is HR1, left_is HR, hperm.length_eq]; simp)
      have hen2 : (Instr.entry (.pointer (some ⟨w.heap.size, 0, none⟩))).run Try.prog w1 = .ok (.tuple #[.agg #[.int .i64 u.x, .int .i64 u.y, .int .i64 x.x, .int .i64 x.y], .agg #[.int .i64 T.A.x, .int .i64 T.A.y, .int .i64 T.B.x, .int .i64 T.B.y, .int .i64 T.C.x, .int .i64 T.C.y]]) w1 := hen
      have hle : (heads p D).length ≤ 1000000 := by have := hD2.out.length_eq; have := heads_len p D; simp at *; omega
      clear hown HR hg1 hs1 hen hperm hw
      have hnx : Hid (∀ W : World, Below w1.heap.size w1 W → (W.rangeLeft b w.heap.size < wr.rangeLeft b w.heap.size)) := Lib.hid (fun W hW => by
        rw [left_is (HR1.ext hW rfl), ← left_is HR1]; exact HL.out)
      by_cases hA : u = T.A
      · have hd : peqI u.x u.y T.A.x T.A.y = true := peqI_pt.2 hA
        cases hT : p T with
        | false =>
          have HH := Lib.hid (show heads p (D ++ [((u, x), T)]) = heads p D by rw [heads_append, heads_no (by simp [hT])]; simp)
          have cp := fun W hW => hp T W hW
          rw [hT] at cp
          clear hA hT
          go_wp2_with fail
          refine at_call fun W2 hW => ?_
          have hb2 : Below w1.heap.size w1 W2 := by rw [hW]; go_grown
          clear hW
          refine (cp _ (hw1.trans (hb2.mono hw1.size))).mono ?_
          rintro e w3 ⟨rfl, hb⟩
          have hb3 := hb2.trans (hb.mono hb2.size)
          clear hb hb2
          go_wp2
          go_roundw
          case rel => exact ⟨D ++ [((u, x), T)], R', hD2, by rw [HH.out]; exact own1.kept (grown_of_below hb3 none) (by cases u5.ownBlock <;> simp), HR1.ext hb3 rfl, hw1.trans (hb3.mono hw1.size)⟩
          case measure => exact hnx.out _ hb3
        | true =>
          have HH := Lib.hid (show heads p (D ++ [((u, x), T)]) = heads p D ++ [T] by rw [heads_append, heads_yes hA hT])
          have cp := fun W hW => hp T W hW
          rw [hT] at cp
          clear hA hT
          go_wp2_with fail
          refine at_call fun W2 hW => ?_
          have hb2 : Below w1.heap.size w1 W2 := by rw [hW]; go_grown
          have Bt : Box W2 (w1.heap.size + 1) (cT T) 25 := by rw [hW]; exact Box.new (by simp)
          clear hW
          refine (cp _ (hw1.trans (hb2.mono hw1.size))).mono ?_
          rintro e w3 ⟨rfl, hb⟩
          have hb3 := hb2.trans (hb.mono hb2.size)
          replace Bt := Bt.ext hb rfl
          have own3 := own1.kept (grown_of_below hb3 none) (by cases u5.ownBlock <;> simp)
          have HB := Lib.hid (Nat.le_trans hw1.size hb3.size)
          clear hb hb2
          obtain ⟨xt, yt, zt, vt⟩ := Bt.facts
          unfold cT at xt
          go_wp2_with (at_builtin; refine append_tri rfl _ _ rfl w.heap.size _ (heads p D) rfl (own3.alloc _) w3.heap.size T rfl (Box.new rfl) hle (by have := HB.out; simp; omega) ?_; intro w4 v4 hown4 hg4)
          have hR3 := (HR1.ext hb3 rfl).kept (World.grownBy_alloc w3 (.cells (cT T).toArray 25) none) (by simp) (by simp)
          have hR4 := hR3.kept hg4 (own_ne_map (own3.alloc _) hR3.holds) (own_ne_iter (own3.alloc _) hR3)
          have hw4 := (((hw1.trans (hb3.mono hw1.size)).alloc (by have := HB.out; omega) (.cells (cT T).toArray 25))).grown hg4 (by have := HB.out; simp; omega) (fun k hk => ((own3.alloc (.cells (cT T).toArray 25)).lt k hk).1)
          go_roundw
          case rel => exact ⟨D ++ [((u, x), T)], R', hD2, by rw [HH.out]; exact hown4, hR4, hw4⟩
          case measure => rw [left_is hR4, ← left_is HR1]; exact HL.out
      · have hd : peqI u.x u.y T.A.x T.A.y = false := by rw [← Bool.not_eq_true, peqI_pt]; exact hA
        have HH := Lib.hid (show heads p (D ++ [((u, x), T)]) = heads p D by rw [heads_append, heads_no (by simp [hA])]; simp)
        clear hA
        go_wp2
        go_roundw
        case rel => exact ⟨D ++ [((u, x), T)], R', hD2, by rw [HH.out]; exact (own1.alloc _).alloc _, HR1.ext (by go_grown) rfl, by have := hw1.size; go_grown⟩
        case measure => exact hnx.out _ (by go_grown)

theorem trueCl (T : Tri3) (w : World) : Calls Try.prog 55 #[.agg #[.int .i64 T.A.x, .int .i64 T.A.y, .int .i64 T.B.x, .int .i64 T.B.y, .int .i64 T.C.x, .int .i64 T.C.y]] w fun e w' => e = .returned (.bool true) ∧ Below w.heap.size w w' := by
  go_enter Try.func55, Try.ntmps55
  go_wp2
  go_ret
  exact ⟨rfl, by go_grown⟩
theorem enterCl : ∀ args w, (callFunc 55 args).run Try.prog w = .ok (.enter 55 args) w := enters_of Try.func55 (by kernel_rfl) rfl
theorem mtris_any (mb b : Nat) (E : Es) (hE : E.length ≤ 1000000) (w : World) (Bm : Box w mb [.map (some b)] 65) (Hm : HoldsMap eW eT okW w b E) :
    Calls Try.prog 36 #[.pointer (some ⟨mb, 0, none⟩)] w fun e w' => ∃ a cap, e = .returned (.slice a (srt cmpT (heads (fun _ => true) E)).length cap) ∧ RowAt cT 6 w' a (srt cmpT (heads (fun _ => true) E)) ∧ Below w.heap.size w w' := by
  have ct := those_any mb b E 55 #[] (fun _ => true) hE w Bm Hm enterCl (fun T W _ => trueCl T W)
  go_enter Try.func36, Try.ntmps36
  go_wp2_with fail
  refine ct.mono ?_
  rintro e w1 ⟨a, cap, rfl, hr, hb⟩
  go_wp2
  go_ret
  exact ⟨a, cap, rfl, hr, hb⟩
end Go.Proofs.Ytaegobkkcgheeaa

namespace Go.Proofs.Ytaegobkkcgheeaa
open Go.RowKit Go.Sort
attribute [local go_sem] rOper rAt rUpon cell_set sg_i64 sg_u64 alloc_cell alloc_frozen
attribute [local go_sem 10000] pt_eql pt_neq tri_eql
attribute [local irreducible] rWalk

theorem RowAt.part {α : Type} {c : α → List Value} {k : Nat} {w : World} {a : Option Addr} {L : List α} (h : RowAt c k w a L) (lo m cap : Nat) (hcap : L.length ≤ cap) :
    RowAt c k w (if cap = lo then a else a.map fun x => x.add (lo * k)) ((L.drop lo).take m) := fun j x hj => by
  have hj2 : L[lo + j]? = some x := by
    rw [List.getElem?_take] at hj
    split at hj
    · rwa [List.getElem?_drop] at hj
    · cases hj
  obtain ⟨ad, h1, h2, h3⟩ := h (lo + j) x hj2
  have hl := (List.getElem?_eq_some_iff.1 hj2).1
  refine ⟨ad.add (lo * k), ?_, by rw [addr_block]; exact h2, fun i u hu => ?_⟩
  · rw [if_neg (by omega), h1]; rfl
  · rw [show (ad.add (lo * k)).add (j * k) = ad.add ((lo + j) * k) by rw [Go.Deep.add_add, ← Nat.add_mul]]
    exact h3 i u hu
theorem run_part_tri (a : Option Addr) (n cap lo hi : Nat) (h1 : lo ≤ hi) (h2 : hi ≤ cap) (w : World) : (Instr.slice 42 (.slice a n cap) (some (.int .i64 lo)) (some (.int .i64 hi)) none).run Try.prog w = .ok (.slice (if cap = lo then a else a.map fun x => x.add (lo * 6)) (hi - lo) (cap - lo)) w := by
  simp [Instr.slice, Instr.sliceBounds, Instr.sliceBound, asIntOf, run_underlying Try.underlying42, go_sem, h1, h2]
theorem run_from_tri (a : Option Addr) (n cap lo : Nat) (h1 : lo ≤ n) (w : World) : (Instr.slice 42 (.slice a n cap) (some (.int .i64 lo)) none none).run Try.prog w = .ok (.slice (if cap = lo then a else a.map fun x => x.add (lo * 6)) (n - lo) (cap - lo)) w := by
  simp [Instr.slice, Instr.sliceBounds, Instr.sliceBound, asIntOf, run_underlying Try.underlying42, go_sem, h1]
theorem run_upto_tri (a : Option Addr) (n cap hi : Nat) (h1 : hi ≤ cap) (w : World) : (Instr.slice 42 (.slice a n cap) none (some (.int .i64 hi)) none).run Try.prog w = .ok (.slice a hi cap) w := by
  cases a <;> simp [Instr.slice, Instr.sliceBounds, Instr.sliceBound, asIntOf, run_underlying Try.underlying42, go_sem, h1, Addr.add]
theorem run_part_pt (a : Option Addr) (n cap lo hi : Nat) (h1 : lo ≤ hi) (h2 : hi ≤ cap) (w : World) : (Instr.slice 32 (.slice a n cap) (some (.int .i64 lo)) (some (.int .i64 hi)) none).run Try.prog w = .ok (.slice (if cap = lo then a else a.map fun x => x.add (lo * 2)) (hi - lo) (cap - lo)) w := by
  simp [Instr.slice, Instr.sliceBounds, Instr.sliceBound, asIntOf, run_underlying Try.underlying32, go_sem, h1, h2]
theorem run_from_pt (a : Option Addr) (n cap lo : Nat) (h1 : lo ≤ n) (w : World) : (Instr.slice 32 (.slice a n cap) (some (.int .i64 lo)) none none).run Try.prog w = .ok (.slice (if cap = lo then a else a.map fun x => x.add (lo * 2)) (n - lo) (cap - lo)) w := by
  simp [Instr.slice, Instr.sliceBounds, Instr.sliceBound, asIntOf, run_underlying Try.underlying32, go_sem, h1]
theorem run_upto_pt (a : Option Addr) (n cap hi : Nat) (h1 : hi ≤ cap) (w : World) : (Instr.slice 32 (.slice a n cap) none (some (.int .i64 hi)) none).run Try.prog w = .ok (.slice a hi cap) w := by
  cases a <;> simp [Instr.slice, Instr.sliceBounds, Instr.sliceBound, asIntOf, run_underlying Try.underlying32, go_sem, h1, Addr.add]
end Go.Proofs.Ytaegobkkcgheeaa

namespace Go.Proofs.Ytaegobkkcgheeaa
section
variable {α : Type} {c : α → α → Int}
/-- Each block of n is in order. -/
def Blocks (c : α → α → Int) (n : Nat) (L : List α) : Prop := ∀ i j (hi : i < L.length) (hj : j < L.length), i < j → i / n = j / n → c L[i] L[j] ≤ 0
theorem blocks_one (L : List α) : Blocks c 1 L := fun i j _ _ h e => by rw [Nat.div_one, Nat.div_one] at e; omega
theorem blocks_all {n : Nat} {L : List α} (h : Blocks c n L) (hn : L.length ≤ n) : InOrder c L := by
  unfold InOrder
  rw [List.pairwise_iff_getElem]
  intro i j hi hj hij
  exact h i j hi hj hij (by rw [Nat.div_eq_of_lt (by omega), Nat.div_eq_of_lt (by omega)])
/-- One block is in order. -/
theorem blocks_part {n m : Nat} {L : List α} (h : Blocks c n L) : InOrder c ((L.drop (n * m)).take n) := by
  unfold InOrder
  rw [List.pairwise_iff_getElem]
  intro i j hi hj hij
  simp only [List.length_take, List.length_drop] at hi hj
  simp only [List.getElem_take, List.getElem_drop]
  have h0 : 0 < n := by omega
  refine h _ _ (by omega) (by omega) (by omega) ?_
  rw [Nat.mul_add_div h0, Nat.mul_add_div h0, Nat.div_eq_of_lt (by omega), Nat.div_eq_of_lt (by omega)]
theorem blocks_append {n m : Nat} {O M : List α} (h : Blocks c n O) (hl : O.length = n * m) (hM : InOrder c M) : Blocks c n (O ++ M) := by
  intro i j hi hj hij e
  rw [List.length_append] at hi hj
  by_cases h1 : j < O.length
  · rw [List.getElem_append_left h1, List.getElem_append_left (by omega)]
    exact h i j (by omega) h1 hij e
  · by_cases h2 : i < O.length
    · exfalso
      have h0 : 0 < n := by rcases Nat.eq_zero_or_pos n with h | h; · subst h; rw [Nat.zero_mul] at hl; omega
                            · exact h
      have e1 : i / n < m := by rw [Nat.div_lt_iff_lt_mul h0, Nat.mul_comm]; omega
      have e2 : m ≤ j / n := by rw [Nat.le_div_iff_mul_le h0, Nat.mul_comm]; omega
      omega
    · rw [List.getElem_append_right (by omega), List.getElem_append_right (by omega)]
      unfold InOrder at hM
      rw [List.pairwise_iff_getElem] at hM
      exact hM (i - O.length) (j - O.length) (by omega) (by omega) (by omega)
/-- What is merged, and what is left of the two. -/
structure Mrg (c : α → α → Int) (X M A B : List α) : Prop where
  perm : (M ++ (A ++ B)).Perm X
  m : InOrder c M
  a : InOrder c A
  b : InOrder c B
  le : ∀ x ∈ M, ∀ y ∈ A ++ B, c x y ≤ 0
theorem Mrg.start {A B : List α} (ha : InOrder c A) (hb : InOrder c B) : Mrg c (A ++ B) [] A B := ⟨by simp, by simp [InOrder], ha, hb, by simp⟩
theorem inOrder_snoc {M : List α} {x : α} (h : InOrder c M) (hx : ∀ y ∈ M, c y x ≤ 0) : InOrder c (M ++ [x]) := by
  unfold InOrder at *
  rw [List.pairwise_append]
  exact ⟨h, by simp, fun a ha b hb => by simp at hb; subst hb; exact hx a ha⟩
theorem Mrg.left (W : Whole c) {X M A B : List α} {x : α} (h : Mrg c X M (x :: A) B) (hx : ∀ y, B.head? = some y → c x y ≤ 0) : Mrg c X (M ++ [x]) A B := by
  have hA := h.a
  unfold InOrder at hA
  rw [List.pairwise_cons] at hA
  have hxB : ∀ y ∈ B, c x y ≤ 0 := fun y hy => by
    cases B with
    | nil => simp at hy
    | cons z B =>
      have hb := h.b
      unfold InOrder at hb
      rw [List.pairwise_cons] at hb
      rcases List.mem_cons.1 hy with rfl | hy
      · exact hx _ rfl
      · exact W.le_trans (hx _ rfl) (hb.1 y hy)
  refine ⟨by simpa using h.perm, inOrder_snoc h.m (fun y hy => h.le y hy x (by simp)), hA.2, h.b, fun z hz y hy => ?_⟩
  rcases List.mem_append.1 hz with hz | hz
  · exact h.le z hz y (by simp at hy ⊢; exact .inr hy)
  · simp at hz; subst hz
    rcases List.mem_append.1 hy with hy | hy
    · exact hA.1 y hy
    · exact hxB y hy
theorem Mrg.right (W : Whole c) {X M A B : List α} {x : α} (h : Mrg c X M A (x :: B)) (hx : ∀ y, A.head? = some y → c x y ≤ 0) : Mrg c X (M ++ [x]) A B := by
  have h2 : Mrg c X M (x :: B) A := ⟨((List.perm_append_comm).append_left M).trans h.perm, h.m, h.b, h.a, fun z hz y hy => h.le z hz y (by simp at hy ⊢; rcases hy with h | h | h <;> simp [h])⟩
  have h3 := h2.left W hx
  exact ⟨((List.perm_append_comm).append_left _).trans h3.perm, h3.m, h3.b, h3.a, fun z hz y hy => h3.le z hz y (by simp at hy ⊢; exact hy.symm)⟩
theorem Mrg.done {X M : List α} (h : Mrg c X M [] []) : M.Perm X := by simpa using h.perm
/-- Two blocks side by side. -/
theorem two_blocks (L : List α) (at_ n : Nat) : (L.drop at_).take n ++ (L.drop (at_ + n)).take n = (L.drop at_).take (2 * n) := by
  rw [← List.drop_drop, Nat.two_mul, List.take_add]
end
end Go.Proofs.Ytaegobkkcgheeaa

namespace Go.Proofs.Ytaegobkkcgheeaa
open Go.RowKit Go.Sort
attribute [local go_sem] rOper rAt rUpon cell_set sg_i64 sg_u64 alloc_cell alloc_frozen
attribute [local go_sem 10000] pt_eql pt_neq tri_eql
attribute [local irreducible] rWalk

/-- A window's four numbers. -/
structure Rc where
  (x0 y0 x1 y1 : Int)
def spn (a b : Int) : Bool := decide (0 ≤ a ∧ a ≤ b ∧ b < 16777216)
def win (r : Rc) : Bool := spn r.x0 r.x1 && spn r.y0 r.y1
def mnA (x y z : Int) : Int := if z < (if y < x then y else x) then z else (if y < x then y else x)
def mxA (x y z : Int) : Int := if z > (if y > x then y else x) then z else (if y > x then y else x)
theorem run_mnA {P : Program} (w : World) (ts : Array TypeId) (t : TypeId) (k k' k'' : IntKind) (x y z : Int) : (Builtin.min_ ts t #[.int k x, .int k' y, .int k'' z]).run P w = .ok (.int k (mnA x y z)) w := run_min_int3 w ts t k k' k'' x y z
theorem run_mxA {P : Program} (w : World) (ts : Array TypeId) (t : TypeId) (k k' k'' : IntKind) (x y z : Int) : (Builtin.max_ ts t #[.int k x, .int k' y, .int k'' z]).run P w = .ok (.int k (mxA x y z)) w := run_max_int3 w ts t k k' k'' x y z
def mn2 (x y : Int) : Int := if y < x then y else x
def mx2 (x y : Int) : Int := if y > x then y else x
theorem run_mn2 {P : Program} (w : World) (ts : Array TypeId) (t : TypeId) (k k' : IntKind) (x y : Int) : (Builtin.min_ ts t #[.int k x, .int k' y]).run P w = .ok (.int k (mn2 x y)) w := run_min_int2 w ts t k k' x y
theorem run_mx2 {P : Program} (w : World) (ts : Array TypeId) (t : TypeId) (k k' : IntKind) (x y : Int) : (Builtin.max_ ts t #[.int k x, .int k' y]).run P w = .ok (.int k (mx2 x y)) w := run_max_int2 w ts t k k' x y
attribute [local go_sem 10000] run_mnA run_mxA run_mn2 run_mx2
def mts (f t a b c : Int) : Bool := decide (mnA a b c ≤ t) && decide (f ≤ mxA a b c)
def lm2 (p q a b : Pt) : Int := mx2 (mx2 (-1) (ori p q a)) (ori p q b)
def lm3 (p q a b c : Pt) : Int := mx2 (mx2 (mx2 (-1) (ori p q a)) (ori p q b)) (ori p q c)
def lm4 (p q a b c d : Pt) : Int := mx2 (mx2 (mx2 (mx2 (-1) (ori p q a)) (ori p q b)) (ori p q c)) (ori p q d)
end Go.Proofs.Ytaegobkkcgheeaa

namespace Go.Proofs.Ytaegobkkcgheeaa
open Go.RowKit Go.Sort
attribute [local go_sem] rOper rAt rUpon cell_set sg_i64 sg_u64 alloc_cell alloc_frozen
attribute [local go_sem 10000] pt_eql pt_neq tri_eql
attribute [local irreducible] rWalk

theorem rowAt_of_owns2 {α : Type} {c : α → List Value} {k : Nat} {w : World} {B : Nat} {T : TypeId} {v : Value} {L : List α} (hc : ∀ x, (c x).length = k) (h : w.ownsRow B T k v L.length (L.flatMap c)) :
    ∃ a cap, v = .slice a L.length cap ∧ L.length ≤ cap ∧ RowAt c k w a L := by
  have h2 := h.2
  obtain ⟨a, cap, rfl, hr⟩ := rowAt_of_owns hc h
  refine ⟨a, cap, rfl, ?_, hr⟩
  rcases h2 with ⟨h3, h4⟩ | ⟨g, cap2, cur, h3, _, _, h4, _⟩
  · omega
  · simp only [Value.slice.injEq] at h3
    omega
theorem Six.cells {w : World} {A : Addr} {T : Tri3} (h : Six w A T) : (∀ d os, (grow (redrawn w d) os).cell? A = some (.int .i64 T.A.x)) ∧ (∀ d os, (grow (redrawn w d) os).cell? ⟨A.block, A.off + 1, none⟩ = some (.int .i64 T.A.y)) ∧ (∀ d os, (grow (redrawn w d) os).cell? ⟨A.block, A.off + 2, none⟩ = some (.int .i64 T.B.x)) ∧
      (∀ d os, (grow (redrawn w d) os).cell? ⟨A.block, A.off + 3, none⟩ = some (.int .i64 T.B.y)) ∧ (∀ d os, (grow (redrawn w d) os).cell? ⟨A.block, A.off + 4, none⟩ = some (.int .i64 T.C.x)) ∧ (∀ d os, (grow (redrawn w d) os).cell? ⟨A.block, A.off + 5, none⟩ = some (.int .i64 T.C.y)) :=
  ⟨fun d os => (h.ext (below_regrown w d os) rfl).2.1, fun d os => (h.ext (below_regrown w d os) rfl).2.2.1, fun d os => (h.ext (below_regrown w d os) rfl).2.2.2.1, fun d os => (h.ext (below_regrown w d os) rfl).2.2.2.2.1, fun d os => (h.ext (below_regrown w d os) rfl).2.2.2.2.2.1, fun d os => (h.ext (below_regrown w d os) rfl).2.2.2.2.2.2⟩
/-- The first of a slice, and the rest of it. -/
theorem RowAt.first {w : World} {a : Option Addr} {x : Tri3} {L : List Tri3} (h : RowAt cT 6 w a (x :: L)) : ∃ ad, a = some ad ∧ Six w ad x := by
  obtain ⟨ad, A, h1, h2, h3⟩ := h.six (j := 0) (by simp)
  rw [Nat.zero_mul, Addr.add_zero'] at h2
  subst h2
  exact ⟨ad, h1, h3⟩
theorem RowAt.rest {w : World} {a : Option Addr} {x : Tri3} {L : List Tri3} {c : Nat} (h : RowAt cT 6 w a (x :: L)) (hc : (x :: L).length ≤ c) :
    ∃ a', (∀ w', (Instr.slice 42 (.slice a (L.length + 1) c) (some (.int .i64 1)) none none).run Try.prog w' = .ok (.slice a' L.length (c - 1)) w') ∧ RowAt cT 6 w a' L ∧ L.length ≤ c - 1 := by
  have h1 := h.part 1 L.length c hc
  have e : ((x :: L).drop 1).take L.length = L := by simp
  rw [e] at h1
  refine ⟨_, fun w' => ?_, h1, by simp at hc; omega⟩
  have := run_from_tri a (L.length + 1) c 1 (by omega) w'
  simpa using this
def lenOf : Value → Nat | .slice _ n _ => n | _ => 0
set_option maxRecDepth 100000 in
set_option maxHeartbeats 4000000 in
theorem rsortT_any (a0 : Option Addr) (c0 N : Nat) (L : List Tri3) (hL : Hid (L.length = N)) (hN : N ≤ 1000000) (hc0 : N ≤ c0) (w : World) (h0 : RowAt cT 6 w a0 L) :
    Calls Try.prog 65 #[.slice a0 N c0] w fun e w' => ∃ a cap, e = .returned (.slice a N cap) ∧ RowAt cT 6 w' a (srt cmpT L) ∧ Below w.heap.size w w' := by
  go_enter Try.func65, Try.ntmps65
  go_wp2
  go_loopw [0, 3] (fun vl vn wr => ∃ (nn : Nat) (X : List Tri3) (a : Option Addr) (cap : Nat), vl = .slice a N cap ∧ vn = .int .i64 nn ∧ 1 ≤ nn ∧ nn ≤ 2000000 ∧ Hid (X.Perm L) ∧ Hid (X.length = N) ∧ Hid (Blocks cmpT nn X) ∧ RowAt cT 6 wr a X ∧ N ≤ cap ∧ Below w.heap.size w wr) (fun _ vn _ => N - (intOf vn).toNat)
  case atStart => exact ⟨1, L, a0, c0, rfl, rfl, Nat.le_refl _, by omega, Lib.hid (List.Perm.refl _), hL, Lib.hid (blocks_one L), h0, hc0, Below.refl _ _⟩
  case round =>
    obtain ⟨nn, X, a, cap, rfl, rfl, hn1, hn2, hX, hXl, hB, hr, hcap, hw⟩ := hrel
    by_cases hlt : nn < N
    case neg =>
      have HS := Lib.hid (wholeT.srt_eq hX.out (blocks_all hB.out (by rw [hXl.out]; omega)))
      go_wp2
      go_ret
      exact ⟨a, cap, rfl, by rw [← HS.out]; exact hr, hw⟩
    case pos =>
      go_wp2
      obtain ⟨W0, rfl⟩ : ∃ W0, W0 = wr := ⟨_, rfl⟩
      go_loopw [4, 5] (fun vo vat wr => ∃ (m at_ : Nat) (O : List Tri3), vat = .int .i64 at_ ∧ Hid (at_ = 2 * nn * m) ∧ at_ ≤ 5000000 ∧ Hid (O.Perm (X.take at_)) ∧ Hid (Blocks cmpT (2 * nn) O) ∧ wr.ownsRow W0.heap.size 25 6 vo O.length (O.flatMap cT) ∧ Below W0.heap.size W0 wr) (fun _ vat _ => N - (intOf vat).toNat)
      case atStart => exact ⟨0, 0, [], rfl, Lib.hid (by simp), by omega, Lib.hid (by simp), Lib.hid (fun i j hi => by simp at hi), World.ownsRow_nil _ _ _ _, Below.refl _ _⟩
      case round =>
        obtain ⟨m, at_, O, rfl, hat, hat2, hO, hOB, hown, hw1⟩ := hrel
        by_cases hlt2 : at_ < N
        case neg =>
          obtain ⟨a', cap', rfl, hcap', hr'⟩ := rowAt_of_owns2 cT_len hown
          have hOX : O.Perm X := by have := hO.out; rwa [List.take_of_length_le (by rw [hXl.out]; omega)] at this
          have HN := Lib.hid (show O.length = N by rw [hOX.length_eq, hXl.out])
          rw [HN.out] at hcap'
          rw [HN.out]
          have HX := Lib.hid (hOX.trans hX.out)
          have e2 : wrap64 (2 * (nn : Int)) = ((2 * nn : Nat) : Int) := by rw [w64]; omega
          clear hOX
          go_wp2
          go_roundw
          case rel => exact ⟨2 * nn, O, a', cap', rfl, by go_num, by omega, by omega, HX, HN, hOB, hr', hcap', hw.trans (hw1.mono hw.size)⟩
          case measure => simp [intOf]; omega
        case pos =>
          obtain ⟨p1, hp1⟩ : ∃ p1, p1 = min (at_ + nn) N := ⟨_, rfl⟩
          obtain ⟨p2, hp2⟩ : ∃ p2, p2 = min (at_ + 2 * nn) N := ⟨_, rfl⟩
          have i1 : IntKind.i64.wrap ((at_ : Int) + nn) = (at_ : Int) + nn := by rw [IntKind.wrap_i64]; omega
          have i2 : IntKind.i64.wrap (2 * (nn : Int)) = 2 * (nn : Int) := by rw [IntKind.wrap_i64]; omega
          have i3 : IntKind.i64.wrap ((at_ : Int) + 2 * (nn : Int)) = (at_ : Int) + 2 * (nn : Int) := by rw [IntKind.wrap_i64]; omega
          have m1 : min ((at_ : Int) + nn) (N : Int) = (p1 : Int) := by rw [hp1]; omega
          have m2 : min ((at_ : Int) + 2 * (nn : Int)) (N : Int) = (p2 : Int) := by rw [hp2]; omega
          have s1 := fun w => run_part_tri a N cap at_ p1 (by omega) (by omega) w
          have s2 := fun w => run_part_tri a N cap p1 p2 (by omega) (by omega) w
          have r1 := hr.part at_ nn cap (by rw [hXl.out]; exact hcap)
          have r2 := hr.part p1 nn cap (by rw [hXl.out]; exact hcap)
          generalize (if cap = at_ then a else a.map fun x => x.add (at_ * 6)) = a1 at s1 r1
          generalize (if cap = p1 then a else a.map fun x => x.add (p1 * 6)) = a2 at s2 r2
          obtain ⟨A, hA⟩ : ∃ A, A = (X.drop at_).take nn := ⟨_, rfl⟩
          obtain ⟨B, hBq⟩ : ∃ B, B = (X.drop (at_ + nn)).take nn := ⟨_, rfl⟩
          have hB2 : B = (X.drop p1).take nn := by
            rw [hBq, hp1]
            rcases Nat.le_total (at_ + nn) N with h | h
            · rw [Nat.min_eq_left h]
            · rw [Nat.min_eq_right h, List.drop_eq_nil_of_le (by rw [hXl.out]; omega), List.drop_eq_nil_of_le (by rw [hXl.out]; omega)]
          have lA : p1 - at_ = A.length := by rw [hA, List.length_take, List.length_drop, hXl.out]; omega
          have lB : p2 - p1 = B.length := by rw [hB2, List.length_take, List.length_drop, hXl.out]; omega
          rw [← hA] at r1
          rw [← hB2] at r2
          rw [lA] at s1
          rw [lB] at s2
          have cA : A.length ≤ cap - at_ := by omega
          have cB : B.length ≤ cap - p1 := by omega
          have HM0 := Lib.hid (Mrg.start (c := cmpT) (A := A) (B := B) (by rw [hA, hat.out, show 2 * nn * m = nn * (2 * m) by rw [Nat.mul_comm 2 nn, Nat.mul_assoc]]; exact blocks_part hB.out) (by rw [hBq, hat.out, show 2 * nn * m + nn = nn * (2 * m + 1) by rw [Nat.mul_comm 2 nn, Nat.mul_assoc, Nat.mul_add, Nat.mul_one]]; exact blocks_part hB.out))
          have HAB := Lib.hid (show A ++ B = (X.drop at_).take (2 * nn) by rw [hA, hBq]; exact two_blocks X at_ nn)
          have HOl := Lib.hid (show O.length = at_ by rw [(hO.out).length_eq, List.length_take, hXl.out]; omega)
          have HLB := Lib.hid (show A.length + B.length ≤ 2000000 by omega)
          clear hp1 hp2 hA hBq hB2 lA lB
          generalize cap - at_ = cap1 at *
          generalize cap - p1 = cap2 at *
          go_wp2
          go_quiet (fail)
          clear i1 i2 i3 m1 m2 s1 s2
          have hb : Below wr.heap.size wr (wr.drewN nq) := ⟨rfl, rfl, rfl, Nat.le_refl _, fun _ _ => rfl⟩
          have own2 := hown.kept (grown_of_below hb none) (by cases u4.ownBlock <;> simp)
          have hw2 := hw1.trans (hb.mono hw1.size)
          clear hown hw1 hb
          generalize wr.drewN nq = W1 at *
          go_wp2
          go_loopw [4, 6, 7] (fun vo va vb wr => ∃ (M A' B' : List Tri3) (a1 : Option Addr) (c1 : Nat) (a2 : Option Addr) (c2 : Nat), va = .slice a1 A'.length c1 ∧ vb = .slice a2 B'.length c2 ∧ A'.length ≤ c1 ∧ B'.length ≤ c2 ∧ Hid (Mrg cmpT (A ++ B) M A' B') ∧ RowAt cT 6 W0 a1 A' ∧ RowAt cT 6 W0 a2 B' ∧ wr.ownsRow W0.heap.size 25 6 vo (O ++ M).length ((O ++ M).flatMap cT) ∧ Below W0.heap.size W0 wr) (fun _ va vb _ => lenOf va + lenOf vb)
          case atStart => exact ⟨[], A, B, a1, cap1, a2, cap2, rfl, rfl, cA, cB, HM0, r1, r2, by simpa using own2, hw2⟩
          case round =>
            clear own2 hw2 r1 r2 cA cB
            obtain ⟨M, A', B', a1, c1, a2, c2, rfl, rfl, hc1, hc2, HM, ra, rb, own2, hw2⟩ := hrel
            have HLe := Lib.hid (show (O ++ M).length ≤ 1000000 by
              have e1 := HM.out.perm.length_eq
              have e2 := congrArg List.length HAB.out
              have e3 := HOl.out
              have e4 := hXl.out
              simp only [List.length_append, List.length_take, List.length_drop] at e1 e2 ⊢
              omega)
            rcases A' with _ | ⟨x, A'⟩ <;> rcases B' with _ | ⟨y, B'⟩
            · have HO := Lib.hid (show (O ++ M).Perm (X.take (at_ + 2 * nn)) by
                rw [List.take_add]
                refine (hO.out).append ?_
                rw [← HAB.out]; exact HM.out.done)
              have HBl := Lib.hid (blocks_append hOB.out (HOl.out.trans hat.out) HM.out.m)
              have e2 : wrap64 (2 * (nn : Int)) = 2 * (nn : Int) := by rw [w64]; omega
              have e3 : wrap64 ((at_ : Int) + 2 * (nn : Int)) = (at_ : Int) + 2 * (nn : Int) := by rw [w64]; omega
              simp only [List.length_nil]
              go_wp2
              go_roundw
              case rel => exact ⟨m + 1, at_ + 2 * nn, O ++ M, by go_num, Lib.hid (by rw [hat.out, Nat.mul_add, Nat.mul_one]), by omega, HO, HBl, own2, hw2⟩
              case measure => simp [intOf]; omega
            · skip
              have HP := Lib.hid (HM.out.right wholeT (by simp))
              simp only [List.length_nil, List.length_cons]
              obtain ⟨ad2, e2, SB0⟩ := rb.first
              have SB := SB0.ext hw2 rfl
              obtain ⟨a2', f2, rb', hc2'⟩ := rb.rest hc2
              rw [e2] at f2
              clear HM rb hc2 SB0
              go_wp2
              refine wp_region_tail 17 (by kernel_rfl) (by kernel_rfl) (C := fun w' => ∃ p : Regrown, w' = grow (redrawn wr p.d) p.os) (fun w' h => regrown_of_below h) ?_
              simp only [List.take_succ_cons, List.take_zero, List.drop_succ_cons, List.drop_zero]
              repeat (first | (refine rWalk_skip (Eq.refl false) ?_; simp only [Act.put, List.setIfInBounds_toArray, List.set_cons_succ, List.set_cons_zero]) | (refine rWalk_step (fun K hK => ?_); go_simp; first | (refine hK _ ?_; clear hK K) | (apply Exists.intro; refine ⟨fun _ => ?_, hK _ ?_⟩; (first | fail); clear hK K)))
              refine rWalk_nil ?_
              intro w2 hb
              have own3 := own2.kept (grown_of_below hb none) (by cases u4.ownBlock <;> simp)
              have hw3 := hw2.trans (hb.mono hw2.size)
              have hle : (O ++ M).length ≤ 1000000 := HLe.out
              clear own2 hw2
              obtain ⟨zA, q0, q1, q2, q3, q4, q5⟩ := (SB.ext hb rfl).facts
              have HB := Lib.hid hw3.size
              go_wp2_with (at_builtin; refine append_tri rfl _ _ rfl W0.heap.size _ (O ++ M) rfl (own3.alloc _) w2.heap.size y rfl (Box.new rfl) hle (by have := HB.out; simp; omega) ?_; intro w4 v4 hown4 hg4)
              clear zA q0 q1 q2 q3 q4 q5
              have hw4 := (hw3.alloc HB.out (.cells (cT y).toArray 25)).grown hg4 (by have := HB.out; simp; omega) (fun k hk => ((own3.alloc (.cells (cT y).toArray 25)).lt k hk).1)
              go_roundw
              case rel => exact ⟨M ++ [y], [], B', a1, c1, a2', c2 - 1, (by first | rfl | (rw [e1]; rfl) | (rw [e2]; rfl)), (by first | rfl | (rw [e1]; rfl) | (rw [e2]; rfl)), hc1, hc2', HP, ra, rb', by rw [← List.append_assoc]; exact hown4, hw4⟩
              case measure => simp [lenOf]
            · skip
              have HP := Lib.hid (HM.out.left wholeT (by simp))
              simp only [List.length_nil, List.length_cons]
              obtain ⟨ad1, e1, SA0⟩ := ra.first
              have SA := SA0.ext hw2 rfl
              obtain ⟨a1', f1, ra1', hc1'⟩ := ra.rest hc1
              rw [e1] at f1
              clear HM ra hc1 SA0
              go_wp2
              refine wp_region_tail 17 (by kernel_rfl) (by kernel_rfl) (C := fun w' => ∃ p : Regrown, w' = grow (redrawn wr p.d) p.os) (fun w' h => regrown_of_below h) ?_
              simp only [List.take_succ_cons, List.take_zero, List.drop_succ_cons, List.drop_zero]
              repeat (first | (refine rWalk_skip (Eq.refl false) ?_; simp only [Act.put, List.setIfInBounds_toArray, List.set_cons_succ, List.set_cons_zero]) | (refine rWalk_step (fun K hK => ?_); go_simp; first | (refine hK _ ?_; clear hK K) | (apply Exists.intro; refine ⟨fun _ => ?_, hK _ ?_⟩; (first | fail); clear hK K)))
              refine rWalk_nil ?_
              intro w2 hb
              have own3 := own2.kept (grown_of_below hb none) (by cases u4.ownBlock <;> simp)
              have hw3 := hw2.trans (hb.mono hw2.size)
              have hle : (O ++ M).length ≤ 1000000 := HLe.out
              clear own2 hw2
              obtain ⟨zA, q0, q1, q2, q3, q4, q5⟩ := (SA.ext hb rfl).facts
              have HB := Lib.hid hw3.size
              go_wp2_with (at_builtin; refine append_tri rfl _ _ rfl W0.heap.size _ (O ++ M) rfl (own3.alloc _) w2.heap.size x rfl (Box.new rfl) hle (by have := HB.out; simp; omega) ?_; intro w4 v4 hown4 hg4)
              clear zA q0 q1 q2 q3 q4 q5
              have hw4 := (hw3.alloc HB.out (.cells (cT x).toArray 25)).grown hg4 (by have := HB.out; simp; omega) (fun k hk => ((own3.alloc (.cells (cT x).toArray 25)).lt k hk).1)
              go_roundw
              case rel => exact ⟨M ++ [x], A', [], a1', c1 - 1, a2, c2, (by first | rfl | (rw [e1]; rfl) | (rw [e2]; rfl)), (by first | rfl | (rw [e1]; rfl) | (rw [e2]; rfl)), hc1', hc2, HP, ra1', rb, by rw [← List.append_assoc]; exact hown4, hw4⟩
              case measure => simp [lenOf]
            · skip
              simp only [List.length_cons]
              have cc := rcmpT_any x y
              by_cases hxy : cmpT x y ≤ 0
              · have HP := Lib.hid (HM.out.left wholeT (by simpa using hxy))
                have hd : decide (cmpT x y ≤ 0) = true := by simpa using hxy
                generalize cmpT x y = n at *
                clear hxy HM
                obtain ⟨ad1, e1, SA0⟩ := ra.first
                have SA := SA0.ext hw2 rfl
                obtain ⟨a1', f1, ra1', hc1'⟩ := ra.rest hc1
                rw [e1] at f1
                obtain ⟨ad2, e2, SB0⟩ := rb.first
                have SB := SB0.ext hw2 rfl
                obtain ⟨t0, t1, t2, t3, t4, t5⟩ := SA.cells
                obtain ⟨s0, s1, s2, s3, s4, s5⟩ := SB.cells
                clear ra hc1 SA0 SB0
                go_wp2
                refine wp_region_tail 17 (by kernel_rfl) (by kernel_rfl) (C := fun w' => ∃ p : Regrown, w' = grow (redrawn wr p.d) p.os) (fun w' h => regrown_of_below h) ?_
                simp only [List.take_succ_cons, List.take_zero, List.drop_succ_cons, List.drop_zero]
                repeat (first | (refine rWalk_skip (Eq.refl false) ?_; simp only [Act.put, List.setIfInBounds_toArray, List.set_cons_succ, List.set_cons_zero]) | (refine rWalk_step (fun K hK => ?_); go_simp; first | (refine hK _ ?_; clear hK K) | (apply Exists.intro; refine ⟨fun _ => ?_, hK _ ?_⟩; (first | with_reducible exact toExt cc _); clear hK K)))
                refine rWalk_nil ?_
                intro w2 hb
                have own3 := own2.kept (grown_of_below hb none) (by cases u4.ownBlock <;> simp)
                have hw3 := hw2.trans (hb.mono hw2.size)
                have hle : (O ++ M).length ≤ 1000000 := HLe.out
                clear own2 hw2
                clear t0 t1 t2 t3 t4 t5 s0 s1 s2 s3 s4 s5
                obtain ⟨zA, q0, q1, q2, q3, q4, q5⟩ := (SA.ext hb rfl).facts
                have HB := Lib.hid hw3.size
                go_wp2_with (at_builtin; refine append_tri rfl _ _ rfl W0.heap.size _ (O ++ M) rfl (own3.alloc _) w2.heap.size x rfl (Box.new rfl) hle (by have := HB.out; simp; omega) ?_; intro w4 v4 hown4 hg4)
                clear zA q0 q1 q2 q3 q4 q5
                have hw4 := (hw3.alloc HB.out (.cells (cT x).toArray 25)).grown hg4 (by have := HB.out; simp; omega) (fun k hk => ((own3.alloc (.cells (cT x).toArray 25)).lt k hk).1)
                go_roundw
                case rel => exact ⟨M ++ [x], A', y :: B', a1', c1 - 1, a2, c2, (by first | rfl | (rw [e1]; rfl) | (rw [e2]; rfl)), (by first | rfl | (rw [e1]; rfl) | (rw [e2]; rfl)), hc1', hc2, HP, ra1', rb, by rw [← List.append_assoc]; exact hown4, hw4⟩
                case measure => simp [lenOf]
              · have HP := Lib.hid (HM.out.right wholeT (by have := cmpT_neg x y; simp; omega))
                have hd : decide (cmpT x y ≤ 0) = false := by simpa using hxy
                generalize cmpT x y = n at *
                clear hxy HM
                obtain ⟨ad1, e1, SA0⟩ := ra.first
                have SA := SA0.ext hw2 rfl
                obtain ⟨ad2, e2, SB0⟩ := rb.first
                have SB := SB0.ext hw2 rfl
                obtain ⟨a2', f2, rb', hc2'⟩ := rb.rest hc2
                rw [e2] at f2
                obtain ⟨t0, t1, t2, t3, t4, t5⟩ := SA.cells
                obtain ⟨s0, s1, s2, s3, s4, s5⟩ := SB.cells
                clear rb hc2 SA0 SB0
                go_wp2
                refine wp_region_tail 17 (by kernel_rfl) (by kernel_rfl) (C := fun w' => ∃ p : Regrown, w' = grow (redrawn wr p.d) p.os) (fun w' h => regrown_of_below h) ?_
                simp only [List.take_succ_cons, List.take_zero, List.drop_succ_cons, List.drop_zero]
                repeat (first | (refine rWalk_skip (Eq.refl false) ?_; simp only [Act.put, List.setIfInBounds_toArray, List.set_cons_succ, List.set_cons_zero]) | (refine rWalk_step (fun K hK => ?_); go_simp; first | (refine hK _ ?_; clear hK K) | (apply Exists.intro; refine ⟨fun _ => ?_, hK _ ?_⟩; (first | with_reducible exact toExt cc _); clear hK K)))
                refine rWalk_nil ?_
                intro w2 hb
                have own3 := own2.kept (grown_of_below hb none) (by cases u4.ownBlock <;> simp)
                have hw3 := hw2.trans (hb.mono hw2.size)
                have hle : (O ++ M).length ≤ 1000000 := HLe.out
                clear own2 hw2
                clear t0 t1 t2 t3 t4 t5 s0 s1 s2 s3 s4 s5
                obtain ⟨zA, q0, q1, q2, q3, q4, q5⟩ := (SB.ext hb rfl).facts
                have HB := Lib.hid hw3.size
                go_wp2_with (at_builtin; refine append_tri rfl _ _ rfl W0.heap.size _ (O ++ M) rfl (own3.alloc _) w2.heap.size y rfl (Box.new rfl) hle (by have := HB.out; simp; omega) ?_; intro w4 v4 hown4 hg4)
                clear zA q0 q1 q2 q3 q4 q5
                have hw4 := (hw3.alloc HB.out (.cells (cT y).toArray 25)).grown hg4 (by have := HB.out; simp; omega) (fun k hk => ((own3.alloc (.cells (cT y).toArray 25)).lt k hk).1)
                go_roundw
                case rel => exact ⟨M ++ [y], x :: A', B', a1, c1, a2', c2 - 1, (by first | rfl | (rw [e1]; rfl) | (rw [e2]; rfl)), (by first | rfl | (rw [e1]; rfl) | (rw [e2]; rfl)), hc1, hc2', HP, ra, rb', by rw [← List.append_assoc]; exact hown4, hw4⟩
                case measure => simp [lenOf]
end Go.Proofs.Ytaegobkkcgheeaa
