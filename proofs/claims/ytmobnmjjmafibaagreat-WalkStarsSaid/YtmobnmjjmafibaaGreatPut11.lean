/- Put together: TrN, TrR, SortQ, MesM, Cpt, MesQ, GeoD, GeoE, CdtJ, CdtK. -/
import Derived.Test.YtmobnmjjmafibaaGreatPut7
import Derived.Test.YtmobnmjjmafibaaGreatRows
import Derived.Test.YtmobnmjjmafibaaGreatPut0
import Derived.WalkKit
import Derived.WalkSpells
import Derived.WalkLawsBesides
import Derived.Laws.Externs
import Derived.Deep.QuietTactic
import Derived.BigQuiet
import Derived.Lib.Hide
import Derived.Handy
import Derived.LoopN
import Derived.OwnWalk
import Derived.Laws.AppendOwn
import Derived.Test.YtmobnmjjmafibaaGreatPut5
import Derived.Test.YtmobnmjjmafibaaGreatPut8
import Derived.RegionTactic
import Derived.Deep.RegionHeld3
import Derived.Deep.AppendLies
import Derived.Maps.RangeWalk
import Derived.Maps.OwnSet
import Derived.Lib.SliceRun
import Derived.Test.YtmobnmjjmafibaaGreatPut10
import Derived.Test.YtmobnmjjmafibaaGreatPut9
import Derived.Deep.LoopGhost
set_option maxRecDepth 100000
set_option maxHeartbeats 8000000
namespace Go.Proofs.YtmobnmjjmafibaaGreat
open Go.RowKit
theorem insP_iff {M : Tri3} {p : Pt} (hM : valT M = true) (vp : vld p = true) : insP M p = true ↔ 0 < det M.A M.B p ∧ 0 < det M.B M.C p ∧ 0 < det M.C M.A p := by
 obtain ⟨va, vb, vc, hD⟩ := zCo hM
 unfold insP
 rw [hM, Bool.true_and]
 simp only [Bool.and_eq_true, decide_eq_true_eq, (zCc va vb vp).1, (zCc vb vc vp).1, (zCc vc va vp).1]
theorem zIw {M : Tri3} {p : Pt} (hM : valT M = true) (vp : vld p = true) : hasP M p = true ↔ 0 ≤ det M.A M.B p ∧ 0 ≤ det M.B M.C p ∧ 0 ≤ det M.C M.A p := by
 obtain ⟨va, vb, vc, hD⟩ := zCo hM
 unfold hasP
 rw [hM, vp, Bool.true_and, Bool.true_and]
 simp only [Bool.and_eq_true, decide_eq_true_eq, (zCc va vb vp).2.1, (zCc vb vc vp).2.1, (zCc vc va vp).2.1]
end Go.Proofs.YtmobnmjjmafibaaGreat
namespace Go.Proofs.YtmobnmjjmafibaaGreat
open Go.RowKit Go.Sort
attribute [local go_sem] rOper rAt rUpon cell_set sg_i64 sg_u64 alloc_cell alloc_frozen
attribute [local go_sem 10000] pt_eql pt_neq
attribute [local irreducible] rWalk
theorem zGm : (Tryz.prog.info? 30).map (fun i => (i.zero, i.size, i.bytes)) = some (some (.agg #[.int .i64 0, .int .i64 0]), 2, 16) := by kernel_rfl
theorem zEy {w : World} {B g n cap : Nat} {xs tl : List Value} {T : TypeId} (h : Box w g (xs ++ tl) T) (hB : B ≤ g) (hl : xs.length = n * 2) (hn : n ≤ cap) (hc : cap ≤ maxLen) (ht : tl.length = (cap - n) * 2) :
    w.ownsRow B T 2 (.slice (some ⟨g, 0, none⟩) n cap) n xs := by
 refine ⟨hl, Or.inr ⟨g, cap, (xs ++ tl).toArray, rfl, hB, h, hn, hc, ?_, ?_⟩⟩
 ·simp [hl, ht]; omega
 ·simp [← hl]
theorem zI5 {w : World} {ops : Array Oper} {rest : List Oper} {o : Oper} {a : Act} {Q : Exit → Act → World → Prop} (hgd : o.guard = none) (s x : Operand)
    (ho : o.op = .call { callee := .builtin .append, args := #[s, x], argTypes := #[52, 52] })
    (B n : Nat) (v : Value) (xs : List Value) (hs : a.eval s = v) (hown : w.ownsRow B 30 2 v n xs)
    (bx : Nat) (p : Pt) (hx : a.eval x = .slice (some ⟨bx, 0, none⟩) 1 1) (hbx : Box w bx [.int .i64 p.x, .int .i64 p.y] 30) (hn : n ≤ 1000000) (hbase : B ≤ w.heap.size)
    (h : ∀ w' g cap tl, B ≤ g → Box w' g (xs ++ .int .i64 p.x :: .int .i64 p.y :: tl) 30 → n + 1 ≤ cap → cap ≤ maxLen → tl.length = (cap - (n + 1)) * 2 → w.grownBy w' v.ownBlock →
     wpList Tryz.prog ops Q rest (a.put o.dst (.slice (some ⟨g, 0, none⟩) (n + 1) cap)) w') : wpList Tryz.prog ops Q (o :: rest) a w := by
 obtain ⟨i0, hi, hz0, hz1, hz2⟩ := info_parts zGm
 refine wpList_append_own w hgd s x 52 ho B 30 i0 _ 2 16 Tryz.underlying52 hi hz0 hz1 hz2 rfl (by decide) v n xs hs hown ⟨bx, 0, none⟩ 1 1 [.int .i64 p.x, .int .i64 p.y] hx rfl ?_ ?_ ?_ ?_ hbase ?_
 ·intro j u hj
  have := hbx.facts.1
  match j, hj with
  | 0, hj => simp at hj; subst hj; simp [Addr.add, this]
  | 1, hj => simp at hj; subst hj; simp [Addr.add, this]
 ·intro u hu; simp at hu; rcases hu with rfl | rfl <;> rfl
 ·unfold maxLen; omega
 ·omega
 ·intro v' w' hown' hg _
  obtain ⟨hl, ⟨_, h0⟩ | ⟨g, cap, cur, rfl, hB, hb, h1, h2, h3, h4⟩⟩ := hown'
  ·omega
  ·refine h w' g cap (cur.toList.drop ((n + 1) * 2)) hB ?_ h1 h2 ?_ hg
   ·unfold Box
    rw [hb]
    have e : xs ++ .int .i64 p.x :: .int .i64 p.y :: cur.toList.drop ((n + 1) * 2) = cur.toList := by
     rw [show xs ++ .int .i64 p.x :: .int .i64 p.y :: cur.toList.drop ((n + 1) * 2) = (xs ++ [.int .i64 p.x, .int .i64 p.y]) ++ cur.toList.drop ((n + 1) * 2) by simp, ← h4, List.take_append_drop]
    rw [e]
   ·rw [List.length_drop, Array.length_toList, h3, Nat.sub_mul]
end Go.Proofs.YtmobnmjjmafibaaGreat
namespace Go.Proofs.YtmobnmjjmafibaaGreat
open Go.RowKit Go.Sort
attribute [local go_sem] rOper rAt rUpon cell_set sg_i64 sg_u64 alloc_cell alloc_frozen
attribute [local go_sem 10000] pt_eql pt_neq tri_eql
attribute [local irreducible] rWalk
def Two (w : World) (A : Addr) (p : Pt) : Prop := A.block < w.heap.size ∧ w.cell? A = some (.int .i64 p.x) ∧ w.cell? ⟨A.block, A.off + 1, none⟩ = some (.int .i64 p.y)
theorem RowAt.two {w : World} {a : Option Addr} {L : List Pt} (h : RowAt cP 2 w a L) {j : Nat} (hj : j < L.length) : ∃ ad A, a = some ad ∧ ad.add (j * 2) = A ∧ Two w A L[j] := by
 obtain ⟨ad, A, h1, h2, _, h4, h5⟩ := h.pt hj
 exact ⟨ad, A, h1, h2, h4, h5⟩
theorem Two.ext {w w' : World} {A : Addr} {p : Pt} {n : Nat} (h : Two w A p) (hb : Below n w w') (hn : n = w.heap.size) : Two w' A p := by
 obtain ⟨h0, h1, h2⟩ := h
 have e : ∀ q : Addr, q.block = A.block → w'.cell? q = w.cell? q := fun q hq => hb.cell (by rw [hq, hn]; exact h0)
 exact ⟨Nat.lt_of_lt_of_le h0 hb.size, (e A rfl).trans h1, (e ⟨A.block, A.off + 1, none⟩ rfl).trans h2⟩
theorem Two.ee {w w' : World} {A : Addr} {p : Pt} (h : Two w A p) (hb : Below w.heap.size w w') : Two w' A p := h.ext hb rfl
theorem Two.facts {w : World} {A : Addr} {p : Pt} (h : Two w A p) : (A.block = w.heap.size) = False ∧ w.cell? A = some (.int .i64 p.x) ∧ w.cell? ⟨A.block, A.off + 1, none⟩ = some (.int .i64 p.y) := ⟨by simp; have := h.1; omega, h.2⟩
theorem Two.cells {w : World} {A : Addr} {p : Pt} (h : Two w A p) : (∀ d os, (grow (redrawn w d) os).cell? A = some (.int .i64 p.x)) ∧ (∀ d os, (grow (redrawn w d) os).cell? ⟨A.block, A.off + 1, none⟩ = some (.int .i64 p.y)) :=
 ⟨fun d os => (h.ext (below_regrown w d os) rfl).2.1, fun d os => (h.ext (below_regrown w d os) rfl).2.2⟩
theorem Two.set {w : World} {A : Addr} {p : Pt} (h : Two w A p) (q : Addr) (v : Value) (hq : q.block ≠ A.block) : Two (w.setCell q v) A p := by
 obtain ⟨h0, h1, h2⟩ := h
 refine ⟨by simpa using h0, ?_, ?_⟩
 ·rw [World.cell?_setCell_other (h := fun e => hq (by rw [e]))]; exact h1
 ·rw [World.cell?_setCell_other (h := fun e => hq (by rw [e]))]; exact h2
theorem zJ0 (tl : List Value) : ∀ (S : List Pt) (j : Nat) (p : Pt), j < S.length → ((S.flatMap cP ++ tl).set (j * 2) (.int .i64 p.x)).set (j * 2 + 1) (.int .i64 p.y) = (S.set j p).flatMap cP ++ tl
 | q :: S, 0, p, _ => by simp [cP]
 | q :: S, j + 1, p, h => by
  have ih := zJ0 tl S j p (by simpa using h)
  simp only [List.flatMap_cons, cP, List.cons_append, List.nil_append, List.set_cons_succ] at ih ⊢
  rw [show (j + 1) * 2 = j * 2 + 1 + 1 by omega]
  simp only [List.set_cons_succ]
  rw [ih]
theorem zF6 {w : World} {g : Nat} {S : List Pt} {tl : List Value} (h : Box w g (S.flatMap cP ++ tl) 30) {j : Nat} (hj : j < S.length) :
    w.cell? ⟨g, j * 2, none⟩ = some (.int .i64 S[j].x) ∧ w.cell? ⟨g, j * 2 + 1, none⟩ = some (.int .i64 S[j].y) ∧ w.frozen? ⟨g, j * 2, none⟩ = false ∧ w.frozen? ⟨g, j * 2 + 1, none⟩ = false := by
 have hf := h.facts
 have e : ∀ i, i < 2 → (S.flatMap cP ++ tl)[j * 2 + i]? = (cP S[j])[i]? := fun i hi => by
  rw [List.getElem?_append_left (by rw [zBr zH1]; omega)]
  exact zBc zH1 S j i S[j] (List.getElem?_eq_getElem hj) hi
 have e0 := e 0 (by omega)
 have e1 := e 1 (by omega)
 refine ⟨by rw [hf.1, show j * 2 = j * 2 + 0 from rfl, e0]; rfl, by rw [hf.1, e1]; rfl, hf.2.1 _, hf.2.1 _⟩
theorem zI1 {w : World} {g : Nat} {S : List Pt} {tl : List Value} (h : Box w g (S.flatMap cP ++ tl) 30) {j : Nat} (hj : j < S.length) (p : Pt) :
    Box ((w.setCell ⟨g, j * 2, none⟩ (.int .i64 p.x)).setCell ⟨g, j * 2 + 1, none⟩ (.int .i64 p.y)) g ((S.set j p).flatMap cP ++ tl) 30 := by
 rw [← zJ0 tl S j p hj]
 exact (h.set (j * 2) _).set (j * 2 + 1) _
theorem rsortP_any (a0 : Option Addr) (c0 n : Nat) (L : List Pt) (hL : Hid (L.length = n)) (hn : n ≤ 500000) (w : World) (h0 : RowAt cP 2 w a0 L) :
    Calls Tryz.prog 83 #[.slice a0 n c0] w fun e w' => ∃ (M : List Pt) (a : Option Addr) (cap : Nat), e = .returned (.slice a M.length cap) ∧ RowAt cP 2 w' a M ∧ Rising cmpP M ∧ (∀ p, p ∈ M ↔ p ∈ L) ∧ Below w.heap.size w w' := by
 go_enter Tryz.func83, Tryz.ntmps83
 go_wp2
 go_loopw [3, 4] (fun vo vi wr => ∃ (k : Nat) (M : List Pt), vi = .int .i64 k ∧ k ≤ n ∧ Hid (Rising cmpP M) ∧ Hid (∀ p, p ∈ M ↔ p ∈ L.take k) ∧ M.length ≤ k ∧ wr.ownsRow w.heap.size 30 2 vo M.length (M.flatMap cP) ∧ Below w.heap.size w wr) (fun _ vi _ => n - (intOf vi).toNat)
 case atStart => exact ⟨0, [], rfl, Nat.zero_le _, Lib.hid (by simp [Rising]), Lib.hid (by simp), Nat.le_refl _, World.ownsRow_nil _ _ _ _, Below.refl _ _⟩
 case round =>
  obtain ⟨k, M, rfl, hk, hR, hM, hMk, hown, hw⟩ := hrel
  by_cases hlt : k < n
  case neg =>
   obtain ⟨a, cap, rfl, _, hr⟩ := zAp zH1 hown
   have HM := Lib.hid (show ∀ p, p ∈ M ↔ p ∈ L by intro p; rw [hM.out p, List.take_of_length_le (by rw [hL.out]; omega)])
   go_wp2
   go_ret
   exact ⟨M, a, cap, rfl, hr, hR.out, HM.out, hw⟩
  case pos =>
   have hlk : k < L.length := hL.out ▸ hlt
   obtain ⟨ad, A, ea, eA, hA0⟩ := h0.two hlk
   have hA := hA0.ee hw
   obtain ⟨a1, c1, rfl, hc1, hr1⟩ := zAp zH1 hown
   have hT := Lib.hid (show L.take (k + 1) = L.take k ++ [L[k]] from List.take_succ_eq_append_getElem hlk)
   generalize L[k] = x at *
   go_wp2
   obtain ⟨W0, rfl⟩ : ∃ W0, W0 = wr := ⟨_, rfl⟩
   go_loopw [5] (fun va wr => ∃ a : Nat, va = .int .i64 a ∧ a ≤ M.length ∧ Hid (∀ (i : Nat) (_ : a ≤ i) (h2 : i < M.length), 0 < cmpP (M[i]'h2) x) ∧ Below W0.heap.size W0 wr) (fun va _ => (intOf va).toNat)
   case atStart => exact ⟨M.length, rfl, Nat.le_refl _, Lib.hid (fun i h1 h2 => by omega), Below.refl _ _⟩
   case round =>
    obtain ⟨a, rfl, haM, hhi, hw1⟩ := hrel
    rcases a with _ | j
    ·have hAT : 0 ≤ M.length := Nat.zero_le _
     have hlo : ∀ (i : Nat) (hi : i < 0), cmpP (M[i]'(by omega)) x < 0 := fun i hi => by omega
     have hhi2 : ∀ (i : Nat) (_ : 0 ≤ i) (h2 : i < M.length), 0 < cmpP (M[i]'h2) x := fun i h1 h2 => hhi.out i h1 h2
     have HHI := Lib.hid hhi2
     clear hhi hhi2
     go_wp2
     refine wp_region_tail 14 (by kernel_rfl) (by kernel_rfl) (C := fun w' => ∃ p : Regrown, w' = grow (redrawn wr p.d) p.os) rgB ?_
     simp only [tK1, tK0, dP1, dP0]
     repeat (first | (refine zA0 (Eq.refl false) ?_; simp only [Act.put, sT2, sT1, sT0]) | (refine rWalk_step (fun K hK => ?_); go_simp; first | (refine hK _ ?_; clear hK K) | (apply Exists.intro; refine ⟨fun _ => ?_, hK _ ?_⟩; (first | fail); clear hK K)))
     refine rWalk_nil ?_
     intro w2 hb
     have hw2 := (upB hw1 hb)
     go_wp2
     refine wp_region_tail 13 (by kernel_rfl) (by kernel_rfl) (C := fun w' => ∃ p : Regrown, w' = grow (redrawn w2 p.d) p.os) rgB ?_
     simp only [tK1, tK0, dP1, dP0]
     repeat (first | (refine zA0 (Eq.refl false) ?_; simp only [Act.put, sT2, sT1, sT0]) | (refine rWalk_step (fun K hK => ?_); go_simp; first | (refine hK _ ?_; clear hK K) | (apply Exists.intro; refine ⟨fun _ => ?_, hK _ ?_⟩; (first | fail); clear hK K)))
     refine rWalk_nil ?_
     intro w3 hb3
     have hw3 := (upB hw2 hb3)
     have hhi2 := HHI.out
     have HI := Lib.hid (zDx wholeP hR.out (x := x) (k := 0) hAT hlo hhi2)
     obtain ⟨z1, t0, t1⟩ := (hA.ee hw3).facts
     have own3 := hown.kept (zA8 hw3 none) (by cases a1 <;> simp [Value.ownBlock])
     have HB := Lib.hid (Nat.le_trans hw.size hw3.size)
     have hMn : M.length ≤ 1000000 := by omega
     have hw3w := (upB hw hw3)
     have hlt0 := fun q hq => (own3.lt q hq).1
     clear hlo hhi2
     go_wp2_with (at_builtin; refine zI5 rfl _ _ rfl w.heap.size M.length _ (M.flatMap cP) rfl (own3.alloc _) w3.heap.size x rfl (Box.new rfl) hMn (by have := HB.out; simp; omega) ?_; intro w4 g cap tl hg0 hbx hcp1 hcp2 htl hg4)
     have hw4 := (hw3w.alloc HB.out (.cells #[.int .i64 x.x, .int .i64 x.y] 30)).grown hg4 (by have := HB.out; simp; omega) hlt0
     have hbx2 : Box w4 g ((M ++ [x]).flatMap cP ++ tl) 30 := by simpa [cP] using hbx
     clear z1 t0 t1 own3 hg4 hlt0 hbx
     go_loopw [6] (fun vk wr => ∃ (q : Nat) (S : List Pt), vk = .int .i64 q ∧ 0 ≤ q ∧ q ≤ M.length ∧ Hid (Moved M S q) ∧ Box wr g (S.flatMap cP ++ tl) 30 ∧ Below w.heap.size w wr) (fun vk _ => (intOf vk).toNat)
     case atStart => exact ⟨M.length, M ++ [x], by first | rfl | go_num, hAT, Nat.le_refl _, Lib.hid (zF0 M x), hbx2, hw4⟩
     case round =>
      clear hbx2 hw4
      obtain ⟨q, S, rfl, hq1, hq2, hS, hbS, hwS⟩ := hrel
      have hSl := hS.out.len
      by_cases hq : 0 < q
      ·rcases q with _ | q
       ·omega
       ·have hqM : q < M.length := hq2
        obtain ⟨u0, u1, _, _⟩ := zF6 hbS (j := q) (by omega)
        obtain ⟨y0, y1, v0, v1, f0, f1⟩ : ∃ y0 y1, wr.cell? ⟨g, (q + 1) * 2, none⟩ = some y0 ∧ wr.cell? ⟨g, (q + 1) * 2 + 1, none⟩ = some y1 ∧ wr.frozen? ⟨g, (q + 1) * 2, none⟩ = false ∧ wr.frozen? ⟨g, (q + 1) * 2 + 1, none⟩ = false := ⟨_, _, zF6 hbS (j := q + 1) (by omega)⟩
        have eg : S[q] = M[q] := hS.out.get hqM
        have hHS := Lib.hid (hS.out.step hqM)
        have hbS2 := zI1 hbS (j := q + 1) (by omega) (M[q]'hqM)
        rw [eg] at u0 u1
        have n5 : q < M.length + 1 := by omega
        have n6 : q + 1 < M.length + 1 := by omega
        have HBS := Lib.hid hbS2
        have HW := Lib.hid hwS
        clear eg hbS2 hwS hS
        clear hbS hSl
        go_wp2
        exact ⟨⟨q, S.set (q + 1) (M[q]'hqM), rfl, by omega, by omega, hHS, HBS.out, (HW.out.setCell hg0 _).setCell hg0 _⟩, by simp [intOf]⟩
      ·obtain rfl : q = 0 := by omega
       obtain ⟨y0, y1, v0, v1, f0, f1⟩ : ∃ y0 y1, wr.cell? ⟨g, 0, none⟩ = some y0 ∧ wr.cell? ⟨g, 1, none⟩ = some y1 ∧ wr.frozen? ⟨g, 0, none⟩ = false ∧ wr.frozen? ⟨g, 1, none⟩ = false := ⟨_, _, zF6 hbS (j := 0) (by omega)⟩
       have hbS2 := zI1 hbS (j := 0) (by omega) x
       rw [hS.out.done hAT x] at hbS2
       have HBS := Lib.hid hbS2
       have HW := Lib.hid ((hwS.setCell (p := ⟨g, 0, none⟩) hg0 (.int .i64 x.x)).setCell (p := ⟨g, 1, none⟩) hg0 (.int .i64 x.y))
       obtain ⟨z1, t0, t1⟩ := (hA0.ee hwS).facts
       have n8 : 0 < M.length + 1 := by omega
       have HLn := Lib.hid (show (M.take 0 ++ x :: M.drop 0).length = M.length + 1 by rw [List.length_append, List.length_cons, List.length_take, List.length_drop]; omega)
       have HMB := Lib.hid (show ∀ p, p ∈ M.take 0 ++ x :: M.drop 0 ↔ p ∈ L.take (k + 1) by intro p; rw [HI.out.2 p, hM.out p, hT.out]; simp)
       clear hbS2 hwS hbS hS hSl hq
       go_wp2
       try rw [← ea]
       go_roundw
       case rel => exact ⟨k + 1, M.take 0 ++ x :: M.drop 0, by go_num, by omega, Lib.hid HI.out.1, HMB, by rw [HLn.out]; omega, by rw [HLn.out]; exact zEy HBS.out hg0 (by rw [zBr zH1, HLn.out]) hcp1 hcp2 htl, HW.out⟩
       case measure => simp [intOf]; omega
    ·obtain ⟨ad1, A1, ea1, eA1, hB0⟩ := hr1.two (j := j) (by omega)
     have hB := hB0.ee hw1
     have hA1 := hA.ee hw1
     have hjM : j < M.length := haM
     have cc := zA9 (M[j]'(by omega)) x
     have e1 : IntKind.i64.wrap (j : Int) = j := by rw [IntKind.wrap_i64]; omega
     by_cases hc : 0 < cmpP (M[j]'(by omega)) x
     ·have hd : decide (0 < cmpP (M[j]'(by omega)) x) = true := by simpa using hc
      have HH := Lib.hid (show ∀ (i : Nat) (_ : j ≤ i) (h2 : i < M.length), 0 < cmpP (M[i]'h2) x from fun i h1 h2 => by
       by_cases e : i = j
       ·subst e; exact hc
       ·exact hhi.out i (by omega) h2)
      clear hc hhi
      generalize cmpP (M[j]'(by omega)) x = q at *
      obtain ⟨t0, t1⟩ := hA1.cells
      obtain ⟨s0, s1⟩ := hB.cells
      go_wp2
      refine wp_region_tail 14 (by kernel_rfl) (by kernel_rfl) (C := fun w' => ∃ p : Regrown, w' = grow (redrawn wr p.d) p.os) rgB ?_
      simp only [tK1, tK0, dP1, dP0]
      repeat (first | (refine zA0 (Eq.refl false) ?_; simp only [Act.put, sT2, sT1, sT0]) | (refine rWalk_step (fun K hK => ?_); go_simp; first | (refine hK _ ?_; clear hK K) | (apply Exists.intro; refine ⟨fun _ => ?_, hK _ ?_⟩; (first | with_reducible exact toExt cc _); clear hK K)))
      refine rWalk_nil ?_
      intro w2 hb
      have hw2 := (upB hw1 hb)
      have e2 : wrap64 (((j + 1 : Nat) : Int) - 1) = j := by rw [w64]; omega
      go_wp2
      try rw [← ea1]
      try rw [← ea]
      go_roundw
      case rel => exact ⟨j, by go_num, by omega, HH, hw2⟩
      case measure => simp [intOf]
     ·have hd : decide (0 < cmpP (M[j]'(by omega)) x) = false := by simpa using hc
      by_cases hx : M[j]'hjM = x
      ·skip
       have hp : peqI (M[j]'hjM).x (M[j]'hjM).y x.x x.y = true := zBi.2 hx
       have HMB := Lib.hid (show ∀ p, p ∈ M ↔ p ∈ L.take (k + 1) by
        intro p
        rw [hT.out, List.mem_append, ← hM.out p]
        constructor
        ·exact .inl
        ·rintro (h | h)
         ·exact h
         ·simp at h; subst h; rw [← hx]; exact List.getElem_mem hjM)
       clear hc hx hhi
       generalize cmpP (M[j]'hjM) x = q at *
       obtain ⟨t0, t1⟩ := hA1.cells
       obtain ⟨s0, s1⟩ := hB.cells
       go_wp2
       refine wp_region_tail 14 (by kernel_rfl) (by kernel_rfl) (C := fun w' => ∃ p : Regrown, w' = grow (redrawn wr p.d) p.os) rgB ?_
       simp only [tK1, tK0, dP1, dP0]
       repeat (first | (refine zA0 (Eq.refl false) ?_; simp only [Act.put, sT2, sT1, sT0]) | (refine rWalk_step (fun K hK => ?_); go_simp; first | (refine hK _ ?_; clear hK K) | (apply Exists.intro; refine ⟨fun _ => ?_, hK _ ?_⟩; (first | with_reducible exact toExt cc _); clear hK K)))
       refine rWalk_nil ?_
       intro w2 hb
       have hw2 := (upB hw1 hb)
       clear t0 t1 s0 s1 hd
       obtain ⟨t0, t1⟩ := (hA1.ee hb).cells
       obtain ⟨s0, s1⟩ := (hB.ee hb).cells
       go_wp2
       refine wp_region_tail 13 (by kernel_rfl) (by kernel_rfl) (C := fun w' => ∃ p : Regrown, w' = grow (redrawn w2 p.d) p.os) rgB ?_
       simp only [tK1, tK0, dP1, dP0]
       repeat (first | (refine zA0 (Eq.refl false) ?_; simp only [Act.put, sT2, sT1, sT0]) | (refine rWalk_step (fun K hK => ?_); go_simp; first | (refine hK _ ?_; clear hK K) | (apply Exists.intro; refine ⟨fun _ => ?_, hK _ ?_⟩; (first | fail); clear hK K)))
       refine rWalk_nil ?_
       intro w3 hb3
       have hw3 := (upB hw2 hb3)
       have own3 := hown.kept (zA8 hw3 none) (by cases a1 <;> simp [Value.ownBlock])
       have hw3w := (upB hw hw3)
       clear t0 t1 s0 s1 hp cc hb3 hw1 hw2
       go_wp2
       try rw [← ea1]
       try rw [← ea]
       go_roundw
       case rel => exact ⟨k + 1, M, by go_num, by omega, hR, HMB, by omega, own3, hw3w⟩
       case measure => simp [intOf]; omega
      ·have hlt1 : cmpP (M[j]'hjM) x < 0 := by have := zCn (p := M[j]'hjM) (q := x); have : cmpP (M[j]'hjM) x ≠ 0 := fun e => hx (this.1 e); omega
       have hAT : j + 1 ≤ M.length := hjM
       have hlo : ∀ (i : Nat) (hi : i < j + 1), cmpP (M[i]'(by omega)) x < 0 := rising_below wholeP hR.out hjM hlt1
       have hhi2 := fun i h1 h2 => hhi.out i h1 h2
       have hp : peqI (M[j]'hjM).x (M[j]'hjM).y x.x x.y = false := by rw [← Bool.not_eq_true, zBi]; exact hx
       clear hc hx hlt1 hhi
       generalize cmpP (M[j]'hjM) x = q at *
       obtain ⟨t0, t1⟩ := hA1.cells
       obtain ⟨s0, s1⟩ := hB.cells
       go_wp2
       refine wp_region_tail 14 (by kernel_rfl) (by kernel_rfl) (C := fun w' => ∃ p : Regrown, w' = grow (redrawn wr p.d) p.os) rgB ?_
       simp only [tK1, tK0, dP1, dP0]
       repeat (first | (refine zA0 (Eq.refl false) ?_; simp only [Act.put, sT2, sT1, sT0]) | (refine rWalk_step (fun K hK => ?_); go_simp; first | (refine hK _ ?_; clear hK K) | (apply Exists.intro; refine ⟨fun _ => ?_, hK _ ?_⟩; (first | with_reducible exact toExt cc _); clear hK K)))
       refine rWalk_nil ?_
       intro w2 hb
       have hw2 := (upB hw1 hb)
       clear t0 t1 s0 s1 hd
       obtain ⟨t0, t1⟩ := (hA1.ee hb).cells
       obtain ⟨s0, s1⟩ := (hB.ee hb).cells
       go_wp2
       refine wp_region_tail 13 (by kernel_rfl) (by kernel_rfl) (C := fun w' => ∃ p : Regrown, w' = grow (redrawn w2 p.d) p.os) rgB ?_
       simp only [tK1, tK0, dP1, dP0]
       repeat (first | (refine zA0 (Eq.refl false) ?_; simp only [Act.put, sT2, sT1, sT0]) | (refine rWalk_step (fun K hK => ?_); go_simp; first | (refine hK _ ?_; clear hK K) | (apply Exists.intro; refine ⟨fun _ => ?_, hK _ ?_⟩; (first | fail); clear hK K)))
       refine rWalk_nil ?_
       intro w3 hb3
       have hw3 := (upB hw2 hb3)
       clear t0 t1 s0 s1 hp cc
       have HI := Lib.hid (zDx wholeP hR.out (x := x) (k := (j + 1)) hAT hlo hhi2)
       obtain ⟨z1, t0, t1⟩ := (hA.ee hw3).facts
       have own3 := hown.kept (zA8 hw3 none) (by cases a1 <;> simp [Value.ownBlock])
       rw [ea1] at own3
       have HB := Lib.hid (Nat.le_trans hw.size hw3.size)
       have hMn : M.length ≤ 1000000 := by omega
       have hw3w := (upB hw hw3)
       have hlt0 := fun q hq => (own3.lt q hq).1
       clear hlo hhi2
       go_wp2_with (at_builtin; refine zI5 rfl _ _ rfl w.heap.size M.length _ (M.flatMap cP) rfl (own3.alloc _) w3.heap.size x rfl (Box.new rfl) hMn (by have := HB.out; simp; omega) ?_; intro w4 g cap tl hg0 hbx hcp1 hcp2 htl hg4)
       have hw4 := (hw3w.alloc HB.out (.cells #[.int .i64 x.x, .int .i64 x.y] 30)).grown hg4 (by have := HB.out; simp; omega) hlt0
       have hbx2 : Box w4 g ((M ++ [x]).flatMap cP ++ tl) 30 := by simpa [cP] using hbx
       clear z1 t0 t1 own3 hg4 hlt0 hbx
       go_loopw [6] (fun vk wr => ∃ (q : Nat) (S : List Pt), vk = .int .i64 q ∧ (j + 1) ≤ q ∧ q ≤ M.length ∧ Hid (Moved M S q) ∧ Box wr g (S.flatMap cP ++ tl) 30 ∧ Below w.heap.size w wr) (fun vk _ => (intOf vk).toNat)
       case atStart => exact ⟨M.length, M ++ [x], by first | rfl | go_num, hAT, Nat.le_refl _, Lib.hid (zF0 M x), hbx2, hw4⟩
       case round =>
        clear hbx2 hw4
        obtain ⟨q, S, rfl, hq1, hq2, hS, hbS, hwS⟩ := hrel
        have hSl := hS.out.len
        by_cases hq : (j + 1) < q
        ·rcases q with _ | q
         ·omega
         ·have hqM : q < M.length := hq2
          obtain ⟨u0, u1, _, _⟩ := zF6 hbS (j := q) (by omega)
          obtain ⟨y0, y1, v0, v1, f0, f1⟩ : ∃ y0 y1, wr.cell? ⟨g, (q + 1) * 2, none⟩ = some y0 ∧ wr.cell? ⟨g, (q + 1) * 2 + 1, none⟩ = some y1 ∧ wr.frozen? ⟨g, (q + 1) * 2, none⟩ = false ∧ wr.frozen? ⟨g, (q + 1) * 2 + 1, none⟩ = false := ⟨_, _, zF6 hbS (j := q + 1) (by omega)⟩
          have eg : S[q] = M[q] := hS.out.get hqM
          have hHS := Lib.hid (hS.out.step hqM)
          have hbS2 := zI1 hbS (j := q + 1) (by omega) (M[q]'hqM)
          rw [eg] at u0 u1
          have n5 : q < M.length + 1 := by omega
          have n6 : q + 1 < M.length + 1 := by omega
          have HBS := Lib.hid hbS2
          have HW := Lib.hid hwS
          clear eg hbS2 hwS hS
          clear hbS hSl
          go_wp2
          exact ⟨⟨q, S.set (q + 1) (M[q]'hqM), rfl, by omega, by omega, hHS, HBS.out, (HW.out.setCell hg0 _).setCell hg0 _⟩, by simp [intOf]⟩
        ·obtain rfl : q = (j + 1) := by omega
         obtain ⟨y0, y1, v0, v1, f0, f1⟩ : ∃ y0 y1, wr.cell? ⟨g, (j + 1) * 2, none⟩ = some y0 ∧ wr.cell? ⟨g, (j + 1) * 2 + 1, none⟩ = some y1 ∧ wr.frozen? ⟨g, (j + 1) * 2, none⟩ = false ∧ wr.frozen? ⟨g, (j + 1) * 2 + 1, none⟩ = false := ⟨_, _, zF6 hbS (j := (j + 1)) (by omega)⟩
         have hbS2 := zI1 hbS (j := (j + 1)) (by omega) x
         rw [hS.out.done hAT x] at hbS2
         have HBS := Lib.hid hbS2
         have HW := Lib.hid ((hwS.setCell (p := ⟨g, (j + 1) * 2, none⟩) hg0 (.int .i64 x.x)).setCell (p := ⟨g, (j + 1) * 2 + 1, none⟩) hg0 (.int .i64 x.y))
         obtain ⟨z1, t0, t1⟩ := (hA0.ee hwS).facts
         have n8 : (j + 1) < M.length + 1 := by omega
         have HLn := Lib.hid (show (M.take (j + 1) ++ x :: M.drop (j + 1)).length = M.length + 1 by rw [List.length_append, List.length_cons, List.length_take, List.length_drop]; omega)
         have HMB := Lib.hid (show ∀ p, p ∈ M.take (j + 1) ++ x :: M.drop (j + 1) ↔ p ∈ L.take (k + 1) by intro p; rw [HI.out.2 p, hM.out p, hT.out]; simp)
         clear hbS2 hwS hbS hS hSl hq
         go_wp2
         try rw [← ea]
         go_roundw
         case rel => exact ⟨k + 1, M.take (j + 1) ++ x :: M.drop (j + 1), by go_num, by omega, Lib.hid HI.out.1, HMB, by rw [HLn.out]; omega, by rw [HLn.out]; exact zEy HBS.out hg0 (by rw [zBr zH1, HLn.out]) hcp1 hcp2 htl, HW.out⟩
         case measure => simp [intOf]; omega
def cnrs (L : List Tri3) : List Pt := L.flatMap fun T => [T.A, T.B, T.C]
theorem zG0 : ∀ L : List Tri3, (cnrs L).length = 3 * L.length
 | [] => rfl
 | T :: L => by have := zG0 L; unfold cnrs at *; rw [List.flatMap_cons, List.length_append, this]; simp; omega
theorem rcorners_any (a0 : Option Addr) (c0 n : Nat) (L : List Tri3) (hL : Hid (L.length = n)) (hn : n ≤ 100000) (w : World) (h0 : RowAt cT 6 w a0 L) :
    Calls Tryz.prog 43 #[.slice a0 n c0] w fun e w' => ∃ (M : List Pt) (a : Option Addr) (cap : Nat), e = .returned (.slice a M.length cap) ∧ RowAt cP 2 w' a M ∧ Rising cmpP M ∧ (∀ p, p ∈ M ↔ p ∈ cnrs L) ∧ Below w.heap.size w w' := by
 go_enter Tryz.func43, Tryz.ntmps43
 go_wp2
 go_loopw [3, 4] (fun vo vi wr => ∃ k : Nat, vi = .int .i64 k ∧ k ≤ n ∧ wr.ownsRow w.heap.size 30 2 vo (cnrs (L.take k)).length ((cnrs (L.take k)).flatMap cP) ∧ Below w.heap.size w wr) (fun _ vi _ => n - (intOf vi).toNat)
 case atStart => exact ⟨0, rfl, Nat.zero_le _, World.ownsRow_nil _ _ _ _, Below.refl _ _⟩
 case round =>
  obtain ⟨k, rfl, hk, hown, hw⟩ := hrel
  by_cases hlt : k < n
  case neg =>
   obtain ⟨a, cap, rfl, _, hr⟩ := zAp zH1 hown
   rw [List.take_of_length_le (by rw [hL.out]; omega)] at hr
   have HL := Lib.hid (show L.take k = L from List.take_of_length_le (by rw [hL.out]; omega))
   have hlen := Lib.hid (show (cnrs (L.take k)).length = 3 * n by rw [HL.out, zG0, hL.out])
   have hcl := Lib.hid (show (cnrs L).length = 3 * n by rw [zG0, hL.out])
   rw [hlen.out]
   go_wp2_with fail
   refine (rsortP_any _ _ _ _ hcl (by omega) _ hr).mono ?_
   rintro e w2 ⟨M, a2, cap2, rfl, h1, h2, h3, hb⟩
   go_wp2
   go_ret
   exact ⟨M, a2, cap2, rfl, h1, h2, h3, (upB hw hb)⟩
  case pos =>
   have hlk : k < L.length := hL.out ▸ hlt
   have HT := Lib.hid (show cnrs (L.take (k + 1)) = cnrs (L.take k) ++ [L[k].A, L[k].B, L[k].C] by rw [List.take_succ_eq_append_getElem hlk]; unfold cnrs; rw [List.flatMap_append]; rfl)
   have hle : (cnrs (L.take k)).length ≤ 1000000 := by rw [zG0, List.length_take]; omega
   obtain ⟨ad, A, ea, eA, hA0⟩ := h0.six hlk
   have hA := hA0.ee hw
   generalize L[k] = T at *
   obtain ⟨t0, t1, t2, t3, t4, t5⟩ := hA.2
   obtain ⟨i0, hi0, hz0, hz1, hz2⟩ := info_parts zGm
   have hAb : A.block < w.heap.size := hA0.1
   have ag : u3.ownBlock ≠ some A.block := fun e => by have := (hown.lt _ e).1; omega
   have HB := Lib.hid hw.size
   have HO := Lib.hid hown
   have hAw : A.block < wr.heap.size := hA.1
   go_wp2
   go_region_held3 (fun w' => w'.cell? A = some (.int .i64 T.A.x) ∧ w'.cell? ⟨A.block, A.off + 1, none⟩ = some (.int .i64 T.A.y) ∧ w'.cell? ⟨A.block, A.off + 2, none⟩ = some (.int .i64 T.B.x) ∧ w'.cell? ⟨A.block, A.off + 3, none⟩ = some (.int .i64 T.B.y) ∧ w'.cell? ⟨A.block, A.off + 4, none⟩ = some (.int .i64 T.C.x) ∧ w'.cell? ⟨A.block, A.off + 5, none⟩ = some (.int .i64 T.C.y))
    (first
     | go_keep
     | (go_split_ands
        refine ⟨?_, ?_, ?_, ?_, ?_, ?_⟩
        ·(rw [hgrow.cell_far A (by simp; omega) (Ne.symm ag)]; assumption)
        ·(rw [hgrow.cell_far ⟨A.block, A.off + 1, none⟩ (by simp; omega) (Ne.symm ag)]; assumption)
        ·(rw [hgrow.cell_far ⟨A.block, A.off + 2, none⟩ (by simp; omega) (Ne.symm ag)]; assumption)
        ·(rw [hgrow.cell_far ⟨A.block, A.off + 3, none⟩ (by simp; omega) (Ne.symm ag)]; assumption)
        ·(rw [hgrow.cell_far ⟨A.block, A.off + 4, none⟩ (by simp; omega) (Ne.symm ag)]; assumption)
        ·(rw [hgrow.cell_far ⟨A.block, A.off + 5, none⟩ (by simp; omega) (Ne.symm ag)]; assumption)))
    ((refine step_append_lies _ (by rfl) _ _ _ (by rfl) w.heap.size 30 i0 _ 2 16 Tryz.underlying52 hi0 hz0 hz1 hz2 rfl (by decide) u3 (cnrs (L.take k)).length ((cnrs (L.take k)).flatMap cP) (by rfl) ((hown.alloc _).drew)
        ⟨wr.heap.size, 0, none⟩ 3 3 (cT T) (by rfl) (by rfl) (World.news_of_block (cs := (cT T).toArray) (t := 30) (fr := (0, 0)) (heap_alloc_new wr _)) (zKc T)
        (by omega) (by unfold maxLen; omega) (by omega) (by have := HB.out; simp; omega) (wr.heap.size + 1) (by simp) ?_; intro gg cap w1 hown1 hgrow hat hlt1))
   go_wp2
   have hw4 : Below w.heap.size w w1 := ((hw.alloc HB.out (.cells (cT T).toArray 30)).drew).grown hgrow (by have := HB.out; show w.heap.size ≤ (wr.alloc _).heap.size; simp; omega) (fun q hq => (HO.out.lt q hq).1)
   have hl2 := Lib.hid (show (cnrs (L.take (k + 1))).length = (cnrs (L.take k)).length + 3 by rw [HT.out]; simp)
   have hown4 : w1.ownsRow w.heap.size 30 2 (.slice (some ⟨gg, 0, none⟩) ((cnrs (L.take k)).length + 3) cap) (cnrs (L.take (k + 1))).length ((cnrs (L.take (k + 1))).flatMap cP) := by
    rw [hl2.out, HT.out, List.flatMap_append]
    simpa [cT, cP] using hown1
   rw [← ea]
   go_roundw
   case rel => exact ⟨k + 1, by go_num, by omega, hown4, hw4⟩
   case measure => simp [intOf]; omega
end Go.Proofs.YtmobnmjjmafibaaGreat
namespace Go.Proofs.YtmobnmjjmafibaaGreat
section
variable {α : Type} [DecidableEq α] {c : α → α → Int}
structure Cpt (c : α → α → Int) (L : List α) (r : Nat) (M : List α) : Prop where
 rise : Rising c M
 mem : ∀ p, p ∈ M ↔ p ∈ L.take r
 last : ∀ (h : 0 < r) (h2 : r ≤ L.length), M.getLast? = some (L[r - 1]'(by omega))
 len : M.length ≤ r
omit [DecidableEq α] in
theorem rising_snoc (W : Whole c) {M : List α} {x y : α} (h : Rising c M) (hl : M.getLast? = some y) (hxy : c y x < 0) : Rising c (M ++ [x]) := by
 unfold Rising at *
 rw [List.pairwise_append]
 refine ⟨h, by simp, fun a ha b hb => ?_⟩
 simp at hb; subst hb
 rw [List.getLast?_eq_some_iff] at hl
 obtain ⟨N, rfl⟩ := hl
 rw [List.pairwise_append] at h
 rcases List.mem_append.1 ha with ha | ha
 ·exact W.trans (h.2.2 a ha y (by simp)) hxy
 ·simp at ha; subst ha; exact hxy
omit [DecidableEq α] in
theorem Cpt.start {L : List α} (h : 0 < L.length) : Cpt c L 1 (L.take 1) := by
 cases L with
 | nil => simp at h
 | cons x L => exact ⟨by simp [Rising], by simp, by simp, by simp⟩
omit [DecidableEq α] in
theorem Cpt.next (W : Whole c) {L M : List α} {r : Nat} (h : Cpt c L r M) (ho : InOrder c L) (h0 : 0 < r) (hr : r < L.length) (hne : L[r] ≠ L[r - 1]'(by omega)) : Cpt c L (r + 1) (M ++ [L[r]]) := by
 have hl := h.last h0 (by omega)
 have hle : c (L[r - 1]'(by omega)) L[r] ≤ 0 := by
  unfold InOrder at ho
  rw [List.pairwise_iff_getElem] at ho
  exact ho _ _ _ _ (by omega)
 have hlt : c (L[r - 1]'(by omega)) L[r] < 0 := by
  have : c (L[r - 1]'(by omega)) L[r] ≠ 0 := fun e => hne (W.eq0.1 e).symm
  omega
 refine ⟨rising_snoc W h.rise hl hlt, fun p => ?_, fun _ _ => by simp, by have := h.len; simp; omega⟩
 rw [List.take_succ_eq_append_getElem hr, List.mem_append, List.mem_append, h.mem p]
omit [DecidableEq α] in
theorem Cpt.same {L M : List α} {r : Nat} (h : Cpt c L r M) (h0 : 0 < r) (hr : r < L.length) (he : L[r] = L[r - 1]'(by omega)) : Cpt c L (r + 1) M := by
 refine ⟨h.rise, fun p => ?_, fun _ _ => ?_, by have := h.len; omega⟩
 ·rw [List.take_succ_eq_append_getElem hr, List.mem_append, h.mem p]
  constructor
  ·exact .inl
  ·rintro (hp | hp)
   ·exact hp
   ·simp at hp
    rw [hp, he]
    exact List.mem_take_iff_getElem.2 ⟨r - 1, by omega, rfl⟩
 ·rw [h.last h0 (by omega)]; simp [he]
omit [DecidableEq α] in
theorem Cpt.all (W : Whole c) {L : List α} (ho : InOrder c L) : ∀ r, r ≤ L.length → 0 < r → (∀ (i : Nat) (h0 : 0 < i) (_ : i < r) (h2 : i < L.length), L[i] ≠ L[i - 1]'(by omega)) → Cpt c L r (L.take r)
 | 0, _, h, _ => absurd h (by omega)
 | 1, h, _, _ => Cpt.start (by omega)
 | r + 2, h, _, hd => by
  have ih := Cpt.all W ho (r + 1) (by omega) (by omega) (fun i h0 h1 h2 => hd i h0 (by omega) h2)
  have := ih.next W ho (by omega) (by omega) (hd (r + 1) (by omega) (by omega) (by omega))
  rwa [← List.take_succ_eq_append_getElem (by omega)] at this
end
open Go.RowKit
def wys (T : Tri3) : Es := [((T.A, T.B), T), ((T.B, T.C), T), ((T.C, T.A), T)]
theorem zDb {T : Tri3} (h : valT T = true) : T.A ≠ T.B ∧ T.B ≠ T.C ∧ T.C ≠ T.A := by
 unfold valT at h
 simp only [Bool.and_eq_true, Bool.not_eq_true', decide_eq_false_iff_not] at h
 have h0 := h.1
 refine ⟨fun e => h0 ?_, fun e => h0 ?_, fun e => h0 ?_⟩
 ·rw [e]; unfold ori det; simp [sgn]
 ·rw [e]; unfold ori det; rw [Int.mul_comm (T.C.x - T.A.x)]; simp [sgn]
 ·rw [e]; unfold ori det; simp [sgn]
theorem fits_parts {E : Es} {T : Tri3} (h : fitsE E T = true) : getE E (T.A, T.B) = none ∧ getE E (T.B, T.C) = none ∧ getE E (T.C, T.A) = none ∧ valT T = true := by
 unfold fitsE at h
 simpa only [Bool.and_eq_true, Option.isNone_iff_eq_none] using h
theorem putT_eq {E : Es} {T : Tri3} (h : fitsE E T = true) : (putT E T).Perm (E ++ wys T) := by
 obtain ⟨h1, h2, h3, hv⟩ := fits_parts h
 obtain ⟨a1, a2, a3⟩ := zDb hv
 rw [zE0] at h1 h2 h3
 unfold putT putE wys
 rw [zDh h1, zDh (x := (T.B, T.C)) (E := ((T.A, T.B), T) :: E) (fun p hp => by
  rcases List.mem_cons.1 hp with rfl | hp
  ·intro e; simp at e; exact a1 e.1
  ·exact h2 p hp), zDh (x := (T.C, T.A)) (E := ((T.B, T.C), T) :: ((T.A, T.B), T) :: E) (fun p hp => by
  rcases List.mem_cons.1 hp with rfl | hp
  ·intro e; simp at e; exact a2 e.1
  ·rcases List.mem_cons.1 hp with rfl | hp
   ·intro e; simp at e; exact a3 e.1.symm
   ·exact h3 p hp)]
 refine List.Perm.trans ?_ (List.perm_append_comm (l₁ := [((T.A, T.B), T), ((T.B, T.C), T), ((T.C, T.A), T)]))
 exact (List.reverse_perm [((T.A, T.B), T), ((T.B, T.C), T), ((T.C, T.A), T)]).append_right E
structure Good (E : Es) (L : List Tri3) : Prop where
 perm : E.Perm (L.flatMap wys)
 nodup : KeysNodup E
 val : ∀ T ∈ L, valT T = true
theorem zHl : ∀ (L : List Tri3), (∀ T ∈ L, valT T = true) → heads yes (L.flatMap wys) = L
 | [], _ => rfl
 | T :: L, h => by
  obtain ⟨a1, a2, a3⟩ := zDb (h T (by simp))
  rw [List.flatMap_cons, zAq, zHl L (fun S hS => h S (by simp [hS]))]
  have : heads yes (wys T) = [T] := by
   unfold heads wys yes
   simp [Ne.symm a1, a3]
  rw [this]; rfl
theorem Good.heads {E : Es} {L : List Tri3} (h : Good E L) : (heads yes E).Perm L := by
 have := zCl (p := yes) h.perm
 rwa [zHl L h.val] at this
theorem zJp : ∀ L : List Tri3, (L.flatMap wys).length = 3 * L.length
 | [] => rfl
 | T :: L => by rw [List.flatMap_cons, List.length_append, zJp L, List.length_cons]; simp [wys]; omega
theorem Good.len {E : Es} {L : List Tri3} (h : Good E L) : E.length = 3 * L.length := by rw [h.perm.length_eq, zJp]
theorem Good.left {E : Es} {L : List Tri3} (h : Good E L) {T : Tri3} (hT : T ∈ L) {i : Int} (hi : i = 0 ∨ i = 1 ∨ i = 2) : lftE E (crn T i) (crn T (i + 1)) = (T, true) := by
 refine zB5 (zFs h.nodup (h.perm.mem_iff.2 (List.mem_flatMap.2 ⟨T, hT, ?_⟩)))
 rcases hi with rfl | rfl | rfl <;> simp [wys, crn, plc]
theorem zB3 {a b c : Pt} (va : vld a = true) (vb : vld b = true) (vc : vld c = true) (h : 0 < det a b c) : Cyc (mk a b c) a b c ∧ valT (mk a b c) = true := by
 have o : ori a b c = 1 := by rw [ori_v va vb vc, sgn_pos]; exact h
 have h0 : ¬ ori a b c = 0 := by omega
 obtain ⟨_, _, _, n1, n2, n3⟩ := zIn h0
 have e0 : mk a b c = mkT a b c := by unfold mk; rw [if_neg h0, if_pos o]
 refine ⟨?_, (mk_ok h0).1⟩
 rw [e0]
 rcases zDf va vb vc n1 n2 n3 with ⟨_, _, e⟩ | ⟨_, _, e⟩ | ⟨_, _, e⟩ <;> rw [e]
 ·exact .inl ⟨rfl, rfl, rfl⟩
 ·exact .inr (.inr ⟨rfl, rfl, rfl⟩)
 ·exact .inr (.inl ⟨rfl, rfl, rfl⟩)
def part (p a b : Pt) : List Tri3 := if ori a b p = 0 then [] else [mk a b p]
def cutP (p : Pt) (T : Tri3) : List Tri3 := part p T.A T.B ++ (part p T.B T.C ++ part p T.C T.A)
theorem zAv {p a b : Pt} (va : vld a = true) (vb : vld b = true) (vp : vld p = true) (h : 0 < det a b p) : part p a b = [mk a b p] := by
 unfold part; rw [if_neg]; rw [ori_v va vb vp, zBl]; omega
theorem zCs {p a b : Pt} (va : vld a = true) (vb : vld b = true) (vp : vld p = true) (h : det a b p = 0) : part p a b = [] := by
 unfold part; rw [if_pos]; rw [ori_v va vb vp, h]; rfl
theorem zDt {T : Tri3} {a b c : Pt} (h : Cyc T a b c) (p : Pt) : (cutP p T).Perm (part p a b ++ (part p b c ++ part p c a)) := by
 unfold cutP
 rcases h with ⟨rfl, rfl, rfl⟩ | ⟨rfl, rfl, rfl⟩ | ⟨rfl, rfl, rfl⟩
 ·exact .refl _
 ·exact List.perm_append_comm.trans (by rw [List.append_assoc])
 ·rw [← List.append_assoc]; exact List.perm_append_comm
theorem zGn {L : List Tri3} (h : (L.flatMap ways).Nodup) : L.Nodup := by
 induction L with
 | nil => exact List.nodup_nil
 | cons T L ih =>
  rw [List.flatMap_cons, List.nodup_append] at h
  rw [List.nodup_cons]
  refine ⟨fun hT => ?_, ih h.2.1⟩
  exact h.2.2 (T.A, T.B) (by simp [ways]) (T.A, T.B) (List.mem_flatMap.2 ⟨T, hT, by simp [ways]⟩) rfl
theorem zGo {α : Type} [DecidableEq α] {L : List α} (hn : L.Nodup) {p : α → Bool} {a : α} (ha : a ∈ L) (h : ∀ x ∈ L, p x = true ↔ x = a) : (L.filter p).Perm [a] ∧ L.Perm (a :: L.filter fun x => !p x) := by
 have h1 : (L.filter p).Perm [a] := by
  refine (List.perm_ext_iff_of_nodup (hn.sublist List.filter_sublist) (by simp)).2 fun x => ?_
  simp only [List.mem_filter, List.mem_singleton]
  exact ⟨fun ⟨k1, k2⟩ => (h x k1).1 k2, fun k => by subst k; exact ⟨ha, (h x ha).2 rfl⟩⟩
 refine ⟨h1, ?_⟩
 have := List.filter_append_perm p L
 exact this.symm.trans (h1.append_right _)
theorem filter_two {α : Type} [DecidableEq α] {L : List α} (hn : L.Nodup) {p : α → Bool} {a b : α} (ha : a ∈ L) (hb : b ∈ L) (hab : a ≠ b) (h : ∀ x ∈ L, p x = true ↔ (x = a ∨ x = b)) : (L.filter p).Perm [a, b] ∧ L.Perm (a :: b :: L.filter fun x => !p x) := by
 have h1 : (L.filter p).Perm [a, b] := by
  refine (List.perm_ext_iff_of_nodup (hn.sublist List.filter_sublist) (by simp [hab])).2 fun x => ?_
  simp only [List.mem_filter, List.mem_cons, List.not_mem_nil, or_false]
  refine ⟨fun ⟨k1, k2⟩ => (h x k1).1 k2, fun k => ?_⟩
  rcases k with rfl | rfl
  ·exact ⟨ha, (h x ha).2 (.inl rfl)⟩
  ·exact ⟨hb, (h x hb).2 (.inr rfl)⟩
 refine ⟨h1, ?_⟩
 have := List.filter_append_perm p L
 exact this.symm.trans (h1.append_right _)
inductive Spots (W H : Int) (L : List Tri3) (p : Pt) : List Tri3 → Prop
 | within (T : Tri3) : T ∈ L → insT T p → Spots W H L p [T]
 | rim (T : Tri3) (a b c : Pt) : T ∈ L → Cyc T a b c → edg a b c p → onRim W H a b → Spots W H L p [T]
 | edge (T S : Tri3) (a b c d : Pt) : T ∈ L → S ∈ L → Cyc T a b c → Cyc S b a d → edg a b c p → ¬ onRim W H a b → Spots W H L p [T, S]
section
variable {W H : Int} {L : List Tri3} (h : Tiles W H L)
include h
theorem Tiles.spots (hW : 0 < W) (hH : 0 < H) {p : Pt} (hp : inBox W H p) (hn : ∀ T ∈ L, ¬ isCnr T p) {f : Tri3 → Bool} (hf : ∀ T ∈ L, f T = true ↔ hasT T p) :
    ∃ F, Spots W H L p F ∧ (L.filter f).Perm F ∧ L.Perm (F ++ L.filter fun x => !f x) := by
 obtain ⟨T, hT, k⟩ := h.covers hW hH hp
 have nd := zGn h.once
 rcases zFr (h.pos T hT) k with g | g | ⟨a, b, c, hc, g⟩
 ·exact absurd g (hn T hT)
 ·have := zGo nd hT (p := f) (fun x hx => by
     rw [hf x hx]
     exact ⟨fun q => (h.ins_one hT hx g q).symm, fun e => by rw [e]; exact k⟩)
  exact ⟨_, .within T hT g, this⟩
 ·have two := fun x hx (q : hasT x p) => h.edg_two hT hx hc g q (hn x hx)
  by_cases hr : onRim W H a b
  ·have := zGo nd hT (p := f) (fun x hx => by
      rw [hf x hx]
      refine ⟨fun q => ?_, fun e => by rw [e]; exact k⟩
      rcases two x hx q with e | ⟨_, e⟩
      ·exact e
      ·exact absurd hr e)
   exact ⟨_, .rim T a b c hT hc g hr, this⟩
  ·have hm := (h.rim (a, b) (zEf hT hc.way)).resolve_right hr
   obtain ⟨S, hS, hw⟩ := List.mem_flatMap.1 hm
   have hw : (b, a) ∈ ways S := hw
   obtain ⟨d, hd⟩ := zDa hw
   have pT := h.cyc_pos hT hc
   have pS := h.cyc_pos hS hd
   have ho := zCt pT pS g
   have hne : T ≠ S := by
    rintro rfl
    have e1 := (hd.cnr_iff c).1 hc.turn.turn.cnr
    obtain ⟨n1, n2, n3⟩ := zAw pT
    rcases e1 with e | e | e
    ·exact n2 e.symm
    ·exact n3 e
    ·rw [← e, zCm] at pS; omega
   have hasS : hasT S p := by
    obtain ⟨o1, o2, o3⟩ := ho
    have : 0 ≤ det b a p ∧ 0 ≤ det a d p ∧ 0 ≤ det d b p := ⟨by omega, by omega, by omega⟩
    unfold hasT
    rcases hd with ⟨rfl, rfl, rfl⟩ | ⟨rfl, rfl, rfl⟩ | ⟨rfl, rfl, rfl⟩
    ·exact this
    ·exact ⟨this.2.2, this.1, this.2.1⟩
    ·exact ⟨this.2.1, this.2.2, this.1⟩
   have := filter_two nd hT hS hne (p := f) (fun x hx => by
    rw [hf x hx]
    refine ⟨fun q => ?_, fun e => ?_⟩
    ·rcases two x hx q with e | ⟨e, _⟩
     ·exact .inl e
     ·exact .inr (zJ1 h.once hx hS e hw)
    ·rcases e with rfl | rfl
     ·exact k
     ·exact hasS)
   exact ⟨_, .edge T S a b c d hT hS hc hd g hr, this⟩
theorem tiles_cut (hW : 0 < W) (hH : 0 < H) (hW' : W < 16777216) (hH' : H < 16777216) {p : Pt} (hp : inBox W H p) (hn : ∀ T ∈ L, ¬ isCnr T p) {F M : List Tri3} (hF : Spots W H L p F) (hL : L.Perm (F ++ M)) :
    Tiles W H (F.flatMap (cutP p) ++ M) ∧ (∀ T ∈ F.flatMap (cutP p), valT T = true ∧ isCnr T p) := by
 have vb : ∀ q, inBox W H q → vld q = true := fun q hq => by rw [zAm]; unfold inBox at hq; omega
 have vp := vb p hp
 cases hF with
 | within T hT hi =>
  have hc := Cyc.refl T
  have va := vb _ (h.cyc_box hT hc)
  have vb' := vb _ (h.cyc_box hT hc.turn)
  have vc := vb _ (h.cyc_box hT hc.turn.turn)
  obtain ⟨i1, i2, i3⟩ := hi
  have e : [T].flatMap (cutP p) = [mk T.A T.B p, mk T.B T.C p, mk T.C T.A p] := by
   simp only [List.flatMap_cons, List.flatMap_nil, List.append_nil]
   unfold cutP
   rw [zAv va vb' vp i1, zAv vb' vc vp i2, zAv vc va vp i3]; rfl
  rw [e]
  have m1 := zB3 va vb' vp i1
  have m2 := zB3 vb' vc vp i2
  have m3 := zB3 vc va vp i3
  refine ⟨h.cut3 hn hp hL hc ⟨i1, i2, i3⟩ m1.1 m2.1 m3.1, fun X hX => ?_⟩
  simp only [List.mem_cons, List.not_mem_nil, or_false] at hX
  rcases hX with rfl | rfl | rfl
  ·exact ⟨m1.2, m1.1.turn.turn.cnr⟩
  ·exact ⟨m2.2, m2.1.turn.turn.cnr⟩
  ·exact ⟨m3.2, m3.1.turn.turn.cnr⟩
 | rim T a b c hT hc hi hr =>
  have va := vb _ (h.cyc_box hT hc)
  have vb' := vb _ (h.cyc_box hT hc.turn)
  have vc := vb _ (h.cyc_box hT hc.turn.turn)
  obtain ⟨i1, i2, i3⟩ := hi
  have e : ([T].flatMap (cutP p)).Perm [mk b c p, mk c a p] := by
   simp only [List.flatMap_cons, List.flatMap_nil, List.append_nil]
   have := zDt hc p
   rw [zCs va vb' vp i1, zAv vb' vc vp i2, zAv vc va vp i3] at this
   exact this
  have m2 := zB3 vb' vc vp i2
  have m3 := zB3 vc va vp i3
  refine ⟨(h.cut2r hn hp hL hc ⟨i1, i2, i3⟩ hr m2.1 m3.1).perm (e.symm.append_right M), fun X hX => ?_⟩
  rw [e.mem_iff] at hX
  simp only [List.mem_cons, List.not_mem_nil, or_false] at hX
  rcases hX with rfl | rfl
  ·exact ⟨m2.2, m2.1.turn.turn.cnr⟩
  ·exact ⟨m3.2, m3.1.turn.turn.cnr⟩
 | edge T S a b c d hT hS hc hd hi hr =>
  have va := vb _ (h.cyc_box hT hc)
  have vb' := vb _ (h.cyc_box hT hc.turn)
  have vc := vb _ (h.cyc_box hT hc.turn.turn)
  have vd := vb _ (h.cyc_box hS hd.turn.turn)
  have ho := zCt (h.cyc_pos hT hc) (h.cyc_pos hS hd) hi
  obtain ⟨i1, i2, i3⟩ := hi
  obtain ⟨o1, o2, o3⟩ := ho
  have e : ([T, S].flatMap (cutP p)).Perm [mk b c p, mk c a p, mk a d p, mk d b p] := by
   simp only [List.flatMap_cons, List.flatMap_nil, List.append_nil]
   have e1 := zDt hc p
   rw [zCs va vb' vp i1, zAv vb' vc vp i2, zAv vc va vp i3] at e1
   have e2 := zDt hd p
   rw [zCs vb' va vp o1, zAv va vd vp o2, zAv vd vb' vp o3] at e2
   exact e1.append e2
  have m1 := zB3 vb' vc vp i2
  have m2 := zB3 vc va vp i3
  have m3 := zB3 va vd vp o2
  have m4 := zB3 vd vb' vp o3
  refine ⟨(h.cut4 hn hp hL hc hd ⟨i1, i2, i3⟩ m1.1 m2.1 m3.1 m4.1).perm (e.symm.append_right M), fun X hX => ?_⟩
  rw [e.mem_iff] at hX
  simp only [List.mem_cons, List.not_mem_nil, or_false] at hX
  rcases hX with rfl | rfl | rfl | rfl
  ·exact ⟨m1.2, m1.1.turn.turn.cnr⟩
  ·exact ⟨m2.2, m2.1.turn.turn.cnr⟩
  ·exact ⟨m3.2, m3.1.turn.turn.cnr⟩
  ·exact ⟨m4.2, m4.1.turn.turn.cnr⟩
end
theorem zFa (L : List Tri3) : (L.flatMap wys).map (·.1) = L.flatMap ways := by
 induction L with
 | nil => rfl
 | cons T L ih => rw [List.flatMap_cons, List.flatMap_cons, List.map_append, ih]; rfl
theorem zI8 {L : List Tri3} {w : Pt × Pt} {T : Tri3} : (w, T) ∈ L.flatMap wys ↔ T ∈ L ∧ w ∈ ways T := by
 rw [List.mem_flatMap]
 constructor
 ·rintro ⟨S, hS, h⟩
  simp only [wys, List.mem_cons, Prod.mk.injEq, List.not_mem_nil, or_false] at h
  rcases h with ⟨rfl, rfl⟩ | ⟨rfl, rfl⟩ | ⟨rfl, rfl⟩ <;> exact ⟨hS, by simp [ways]⟩
 ·rintro ⟨hS, h⟩
  refine ⟨T, hS, ?_⟩
  simp only [ways, List.mem_cons, List.not_mem_nil, or_false] at h
  rcases h with rfl | rfl | rfl <;> simp [wys]
section
variable {E : Es} {L : List Tri3} (h : Good E L)
include h
theorem Good.once : (L.flatMap ways).Nodup := by
 rw [← zFa]
 have hn := h.nodup
 unfold KeysNodup at hn
 exact (h.perm.map (·.1)).nodup_iff.1 hn
theorem Good.get {a b : Pt} {T : Tri3} : getE E (a, b) = some T ↔ T ∈ L ∧ (a, b) ∈ ways T := by
 rw [getE_iff h.nodup, h.perm.mem_iff, zI8]
theorem Good.get_none {a b : Pt} : getE E (a, b) = none ↔ (a, b) ∉ L.flatMap ways := by
 rw [zE0]
 constructor
 ·intro k hm
  rw [← zFa, List.mem_map] at hm
  obtain ⟨p, hp, e⟩ := hm
  exact k p (h.perm.mem_iff.2 hp) e
 ·intro k p hp e
  apply k
  rw [← zFa, List.mem_map]
  exact ⟨p, h.perm.mem_iff.1 hp, e⟩
theorem Good.has {T : Tri3} : hasE E T = true ↔ T ∈ L := by
 unfold hasE
 constructor
 ·intro k
  cases hg : getE E (T.A, T.B) with
  | none => rw [hg] at k; cases k
  | some S =>
   rw [hg] at k
   have e := zG8.1 k
   rw [← e]; exact (h.get.1 hg).1
 ·intro k
  rw [h.get.2 ⟨k, by simp [ways]⟩]
  exact zG8.2 rfl
theorem Good.order {M : List Tri3} (p : L.Perm M) : Good E M := ⟨h.perm.trans (p.flatMap_right _), h.nodup, fun T hT => h.val T (p.mem_iff.2 hT)⟩
end
theorem takeT_nodup {E : Es} (h : KeysNodup E) (T : Tri3) : KeysNodup (takeT E T) := zC4 (zC4 (zC4 h _) _) _
theorem Good.take {E : Es} {T : Tri3} {M : List Tri3} (h : Good E (T :: M)) : hasE E T = true ∧ Good (takeT E T) M := by
 refine ⟨h.has.2 (by simp), ?_, takeT_nodup h.nodup T, fun S hS => h.val S (by simp [hS])⟩
 have hT := h.val T (by simp)
 have ho := h.once
 rw [List.flatMap_cons, List.nodup_append] at ho
 -- what is taken: the three pairs of T
 have hp : E.Perm (wys T ++ M.flatMap wys) := by have := h.perm; rwa [List.flatMap_cons] at this
 have e1 : takeT E T = E.filter (fun p => decide (p.1 ∉ ways T)) := by
  unfold takeT delE
  rw [List.filter_filter, List.filter_filter]
  refine List.filter_congr fun p _ => ?_
  simp only [ways, List.mem_cons, List.not_mem_nil, or_false]
  by_cases a1 : p.1 = (T.A, T.B) <;> by_cases a2 : p.1 = (T.B, T.C) <;> by_cases a3 : p.1 = (T.C, T.A) <;> simp [a1, a2, a3]
 rw [e1]
 refine (hp.filter _).trans ?_
 rw [List.filter_append]
 have f1 : (wys T).filter (fun p => decide (p.1 ∉ ways T)) = [] := by
  rw [List.filter_eq_nil_iff]
  intro p hp'
  have : p.1 ∈ ways T := by
   have : p ∈ [T].flatMap wys := by simpa using hp'
   obtain ⟨q, S⟩ := p
   have := zI8.1 this
   simp only [List.mem_singleton] at this
   rw [← this.1]; exact this.2
  simpa using this
 have f2 : (M.flatMap wys).filter (fun p => decide (p.1 ∉ ways T)) = M.flatMap wys := by
  rw [List.filter_eq_self]
  intro p hp'
  have : p.1 ∉ ways T := fun k => ho.2.2 p.1 k p.1 (by rw [← zFa]; exact List.mem_map_of_mem hp') rfl
  simpa using this
 rw [f1, f2, List.nil_append]
theorem Good.put {E : Es} {T : Tri3} {M : List Tri3} (h : Good E M) (hv : valT T = true) (hn : ∀ w ∈ ways T, w ∉ M.flatMap ways) : fitsE E T = true ∧ Good (putT E T) (T :: M) := by
 have hf : fitsE E T = true := by
  unfold fitsE
  simp only [Bool.and_eq_true, Option.isNone_iff_eq_none]
  exact ⟨h.get_none.2 (hn _ (by simp [ways])), h.get_none.2 (hn _ (by simp [ways])), h.get_none.2 (hn _ (by simp [ways])), hv⟩
 refine ⟨hf, ?_, zCg (zCg (zCg h.nodup _ _) _ _) _ _, fun S hS => ?_⟩
 ·refine (putT_eq hf).trans ?_
  rw [List.flatMap_cons]
  exact (h.perm.append_right _).trans List.perm_append_comm
 ·rcases List.mem_cons.1 hS with rfl | hS
  ·exact hv
  ·exact h.val S hS
theorem Good.takes : ∀ {F : List Tri3} {E : Es} {M : List Tri3}, Good E (F ++ M) → (takeRun E F).1 = F.length ∧ Good (takeRun E F).2 M
 | [], E, M, h => ⟨rfl, h⟩
 | T :: F, E, M, h => by
  obtain ⟨h1, h2⟩ := Good.take (E := E) (T := T) (M := F ++ M) h
  obtain ⟨k1, k2⟩ := Good.takes h2
  unfold takeRun
  rw [if_pos h1]
  exact ⟨by simp [k1], k2⟩
theorem Good.puts : ∀ {I : List Tri3} {E : Es} {M : List Tri3}, Good E M → (∀ T ∈ I, valT T = true) → ((I ++ M).flatMap ways).Nodup → (putRun E I).1 = I.length ∧ Good (putRun E I).2 (I ++ M)
 | [], E, M, h, _, _ => ⟨rfl, h⟩
 | T :: I, E, M, h, hv, hn => by
  have hn' : (ways T ++ (I ++ M).flatMap ways).Nodup := by rw [← List.flatMap_cons]; exact hn
  rw [List.nodup_append] at hn'
  obtain ⟨h1, h2⟩ := Good.put (E := E) (T := T) (M := M) h (hv T (by simp)) (fun w hw k => hn'.2.2 w hw w (by rw [List.flatMap_append]; exact List.mem_append_right _ k) rfl)
  obtain ⟨k1, k2⟩ := Good.puts (I := I) h2 (fun S hS => hv S (by simp [hS])) ((zBf (List.perm_middle (a := T) (l₁ := I) (l₂ := M))).nodup_iff.2 hn)
  unfold putRun
  rw [if_pos h1]
  exact ⟨by simp [k1], k2.order List.perm_middle⟩
def someC (L : List Tri3) (p : Pt) : Prop := ∃ T ∈ L, isCnr T p
structure Kept (K : Pt → Pt → Prop) (L L' : List Tri3) : Prop where
 len : L'.length = L.length
 cnr : ∀ p, someC L' p ↔ someC L p
 wall : ∀ a b, K a b → (a, b) ∈ L.flatMap ways → (a, b) ∈ L'.flatMap ways
theorem Kept.refl (K : Pt → Pt → Prop) (L : List Tri3) : Kept K L L := ⟨rfl, fun _ => Iff.rfl, fun _ _ _ h => h⟩
theorem Kept.trans {K : Pt → Pt → Prop} {A B C : List Tri3} (h : Kept K A B) (k : Kept K B C) : Kept K A C :=
 ⟨k.len.trans h.len, fun p => (k.cnr p).trans (h.cnr p), fun a b w m => k.wall a b w (h.wall a b w m)⟩
theorem Kept.perm {K : Pt → Pt → Prop} {L M : List Tri3} (p : L.Perm M) : Kept K L M :=
 ⟨p.length_eq.symm, fun q => by unfold someC; simp only [p.mem_iff], fun _ _ _ h => (zBf p).mem_iff.1 h⟩
structure Flp (K : Pt → Pt → Prop) (L : List Tri3) (S R : Tri3) (M : List Tri3) (a b c d : Pt) : Prop where
 make ::
 perm : L.Perm (S :: R :: M)
 one : Cyc S a b c
 two : Cyc R b a d
 free : ¬ K a b ∧ ¬ K b a
 left : 0 < det c a d
 right : 0 < det d b c
section
variable {W H : Int} {K : Pt → Pt → Prop} {L : List Tri3} {S R : Tri3} {M : List Tri3} {a b c d : Pt}
theorem Flp.pts (f : Flp K L S R M a b c d) (h : Tiles W H L) : inBox W H a ∧ inBox W H b ∧ inBox W H c ∧ inBox W H d := by
 have mS : S ∈ L := f.perm.mem_iff.2 (by simp)
 have mR : R ∈ L := f.perm.mem_iff.2 (by simp)
 exact ⟨h.cyc_box mS f.one, h.cyc_box mS f.one.turn, h.cyc_box mS f.one.turn.turn, h.cyc_box mR f.two.turn.turn⟩
theorem Flp.news (f : Flp K L S R M a b c d) (h : Tiles W H L) (hW : W < 16777216) (hH : H < 16777216) :
    (Cyc (mk c a d) c a d ∧ valT (mk c a d) = true) ∧ (Cyc (mk d b c) d b c ∧ valT (mk d b c) = true) := by
 have vb : ∀ q, inBox W H q → vld q = true := fun q hq => by rw [zAm]; unfold inBox at hq; omega
 obtain ⟨ba, bb, bc, bd⟩ := f.pts h
 exact ⟨zB3 (vb _ bc) (vb _ ba) (vb _ bd) f.left, zB3 (vb _ bd) (vb _ bb) (vb _ bc) f.right⟩
theorem Flp.tiles (f : Flp K L S R M a b c d) (h : Tiles W H L) (hW : W < 16777216) (hH : H < 16777216) : Tiles W H (mk c a d :: mk d b c :: M) := by
 obtain ⟨u, v⟩ := f.news h hW hH
 exact h.flip f.perm f.one f.two f.left f.right u.1 v.1
theorem Flp.kept (f : Flp K L S R M a b c d) (h : Tiles W H L) (hW : W < 16777216) (hH : H < 16777216) : Kept K L (mk c a d :: mk d b c :: M) := by
 obtain ⟨⟨u, _⟩, v, _⟩ := f.news h hW hH
 refine (Kept.perm f.perm).trans ⟨rfl, fun p => ?_, fun x y hk hm => ?_⟩
 ·unfold someC
  simp only [List.mem_cons]
  constructor
  ·rintro ⟨T, rfl | rfl | hT, hp⟩
   ·rcases (u.cnr_iff p).1 hp with rfl | rfl | rfl
    ·exact ⟨S, .inl rfl, f.one.turn.turn.cnr⟩
    ·exact ⟨S, .inl rfl, f.one.cnr⟩
    ·exact ⟨R, .inr (.inl rfl), f.two.turn.turn.cnr⟩
   ·rcases (v.cnr_iff p).1 hp with rfl | rfl | rfl
    ·exact ⟨R, .inr (.inl rfl), f.two.turn.turn.cnr⟩
    ·exact ⟨S, .inl rfl, f.one.turn.cnr⟩
    ·exact ⟨S, .inl rfl, f.one.turn.turn.cnr⟩
   ·exact ⟨T, .inr (.inr hT), hp⟩
  ·rintro ⟨T, rfl | rfl | hT, hp⟩
   ·rcases (f.one.cnr_iff p).1 hp with rfl | rfl | rfl
    ·exact ⟨_, .inl rfl, u.turn.cnr⟩
    ·exact ⟨_, .inr (.inl rfl), v.turn.cnr⟩
    ·exact ⟨_, .inl rfl, u.cnr⟩
   ·rcases (f.two.cnr_iff p).1 hp with rfl | rfl | rfl
    ·exact ⟨_, .inr (.inl rfl), v.turn.cnr⟩
    ·exact ⟨_, .inl rfl, u.turn.cnr⟩
    ·exact ⟨_, .inr (.inl rfl), v.cnr⟩
   ·exact ⟨T, .inr (.inr hT), hp⟩
 ·rw [List.flatMap_cons, List.flatMap_cons] at hm ⊢
  simp only [List.mem_append] at hm ⊢
  rw [f.one.ways.mem_iff, f.two.ways.mem_iff] at hm
  rw [u.ways.mem_iff, v.ways.mem_iff]
  simp only [List.mem_cons, Prod.mk.injEq, List.not_mem_nil, or_false] at hm ⊢
  obtain ⟨f1, f2⟩ := f.free
  rcases hm with (⟨rfl, rfl⟩ | h | h) | (⟨rfl, rfl⟩ | h | h) | h
  ·exact absurd hk f1
  ·exact .inr (.inl (.inr (.inl h)))
  ·exact .inl (.inl h)
  ·exact absurd hk f2
  ·exact .inl (.inr (.inl h))
  ·exact .inr (.inl (.inl h))
  ·exact .inr (.inr h)
theorem Flp.good {E : Es} (f : Flp K L S R M a b c d) (g : Good E L) (h : Tiles W H L) (hW : W < 16777216) (hH : H < 16777216) :
    ((takeRun E [S, R]).1 = 2 ∧ (putRun (takeRun E [S, R]).2 [mk c a d, mk d b c]).1 = 2) ∧ Good (putRun (takeRun E [S, R]).2 [mk c a d, mk d b c]).2 (mk c a d :: mk d b c :: M) := by
 have k := Good.takes (F := [S, R]) (M := M) (g.order f.perm)
 obtain ⟨u, v⟩ := f.news h hW hH
 have t := f.tiles h hW hH
 have p := Good.puts (I := [mk c a d, mk d b c]) k.2 (fun T hT => by
  simp only [List.mem_cons, List.not_mem_nil, or_false] at hT
  rcases hT with rfl | rfl
  ·exact u.2
  ·exact v.2) t.once
 exact ⟨⟨k.1, p.1⟩, p.2⟩
theorem Flp.less {h : Pt → Int} (f : Flp K L S R M a b c d) (t : Tiles W H L) (hW : W < 16777216) (hH : H < 16777216) (hp : 0 < PH h a b c d) : volS h (mk c a d :: mk d b c :: M) < volS h L := by
 obtain ⟨u, v⟩ := f.news t hW hH
 rw [volS_perm f.perm, vol_flip h M f.one f.two u.1 v.1]
 omega
end
theorem Tiles.vols {W H : Int} {L : List Tri3} (h : Tiles W H L) (hW : W < 16777216) (hH : H < 16777216) {ht : Pt → Int} (hh : Hts ht) : 0 ≤ volS ht L := by
 have vb : ∀ q, inBox W H q → vld q = true := fun q hq => by rw [zAm]; unfold inBox at hq; omega
 refine zJq hh fun T hT => ⟨h.pos T hT, vb _ (h.box T hT).1, vb _ (h.box T hT).2.1, vb _ (h.box T hT).2.2⟩
theorem Tiles.flip_bad {W H : Int} {K : Pt → Pt → Prop} {L : List Tri3} (h : Tiles W H L) (hW : W < 16777216) (hH : H < 16777216) {ht : Pt → Int} (hh : Hts ht) {S R : Tri3} (hS : S ∈ L) (hR : R ∈ L) {a b c d : Pt} (cS : Cyc S a b c) (cR : Cyc R b a d) (hk : ¬ K a b ∧ ¬ K b a) (hb : circ a b c d = 1) :
    0 < PH ht a b c d ∧ ∃ M, Flp K L S R M a b c d := by
 have vb : ∀ q, inBox W H q → vld q = true := fun q hq => by rw [zAm]; unfold inBox at hq; omega
 have p1 := h.cyc_pos hS cS
 have p2 := h.cyc_pos hR cR
 obtain ⟨q1, q2, q3⟩ := zAw p2
 have dc : d ≠ c := by
  rintro rfl
  rw [zCm] at p2; omega
 have sg := hh.sign a b c d (vb _ (h.cyc_box hS cS)) (vb _ (h.cyc_box hS cS.turn)) (vb _ (h.cyc_box hS cS.turn.turn)) (vb _ (h.cyc_box hR cR.turn.turn)) p1 (Ne.symm q2) q3 dc
 have hne : S ≠ R := by
  rintro rfl
  obtain ⟨n1, n2, n3⟩ := zAw p1
  rcases (cR.cnr_iff c).1 cS.turn.turn.cnr with e | e | e
  ·exact n2 e.symm
  ·exact n3 e
  ·exact dc e.symm
 rcases sg with ⟨_, s2, s3⟩ | ⟨s1, _⟩
 ·obtain ⟨x, y⟩ := convex p1 p2 s3
  obtain ⟨M, hM⟩ := zFb hS hR hne
  exact ⟨s2, M, hM, cS, cR, hk, x, y⟩
 ·omega
def allBack (L : List Tri3) (p : Pt) : Prop := ∀ w ∈ L.flatMap ways, w.1 = p ∨ w.2 = p → (w.2, w.1) ∈ L.flatMap ways
def atRim (W H : Int) (p : Pt) : Prop := p.x = 0 ∨ p.y = 0 ∨ p.x = W ∨ p.y = H
theorem Tiles.back {W H : Int} {L : List Tri3} (h : Tiles W H L) {p : Pt} (hp : ¬ atRim W H p) : allBack L p := by
 intro w hw hx
 rcases h.rim w hw with k | k
 ·exact k
 ·exfalso; apply hp
  unfold onRim at k; unfold atRim
  rcases hx with e | e <;> rw [e] at k <;> omega
theorem zE5 {L : List Tri3} (hpos : ∀ T ∈ L, 0 < det T.A T.B T.C) {al be ga : Int} (hu : al * al + be * be = 1) (hf : ∀ T ∈ L, ∀ q, isCnr T q → 0 ≤ al * q.x + be * q.y + ga) {p : Pt} (hp : al * p.x + be * p.y + ga = 0) (hc : someC L p) : ¬ allBack L p := by
 intro hb
 have cycpos : ∀ {T : Tri3} {a b c : Pt}, T ∈ L → Cyc T a b c → 0 < det a b c := fun hT hc => by rw [hc.det]; exact hpos _ hT
 obtain ⟨f, ef⟩ : ∃ f : Pt → Int, ∀ q, f q = al * q.x + be * q.y + ga := ⟨_, fun _ => rfl⟩
 obtain ⟨g, eg⟩ : ∃ g : Pt → Int, ∀ q, g q = be * (q.x - p.x) - al * (q.y - p.y) := ⟨_, fun _ => rfl⟩
 have hf : ∀ T ∈ L, ∀ q, isCnr T q → 0 ≤ f q := fun T hT q hq => by rw [ef]; exact hf T hT q hq
 have hp : f p = 0 := by rw [ef]; exact hp
 have hd : ∀ x y, det p x y = g x * f y - f x * g y := by
  intro x y
  have e1 : g x * f y - f x * g y = (al * al + be * be) * det p x y + (g x - g y) * f p := by
   rw [eg, eg, ef, ef, ef]; unfold det; grind
  rw [e1, hu, hp, Int.one_mul, Int.mul_zero, Int.add_zero]
 clear ef eg hu
 -- the first ways of those that stand around
 let F : List Pt := (L.flatMap ways).filterMap fun w => if w.1 = p then some w.2 else none
 have mF : ∀ x, x ∈ F ↔ (p, x) ∈ L.flatMap ways := by
  intro x
  simp only [F, List.mem_filterMap]
  constructor
  ·rintro ⟨⟨a, b⟩, hw, e⟩
   split at e
   ·rename_i e1
    simp only [Option.some.injEq] at e
    simp only at e1
    rw [← e, ← e1]; exact hw
   ·cases e
  ·intro hw; exact ⟨_, hw, by simp⟩
 have tri : ∀ x, x ∈ F → ∃ T ∈ L, ∃ y, Cyc T p x y := by
  intro x hx
  obtain ⟨T, hT, hw⟩ := List.mem_flatMap.1 ((mF x).1 hx)
  obtain ⟨y, hy⟩ := zDa hw
  exact ⟨T, hT, y, hy⟩
 -- of each the triangle on its right
 have right : ∀ x, x ∈ F → ∃ T ∈ L, ∃ z, Cyc T p z x := by
  intro x hx
  have := hb (p, x) ((mF x).1 hx) (.inl rfl)
  obtain ⟨T, hT, hw⟩ := List.mem_flatMap.1 this
  have hw : (x, p) ∈ ways T := hw
  obtain ⟨z, hz⟩ := zDa hw
  exact ⟨T, hT, z, hz.turn⟩
 have fpos : ∀ x ∈ F, 0 < f x := by
  intro x hx
  obtain ⟨T, hT, z, hz⟩ := right x hx
  obtain ⟨S, hS, y, hy⟩ := tri x hx
  have p1 := cycpos hT hz
  have p2 := cycpos hS hy
  have a1 := hf T hT x hz.turn.turn.cnr
  have a2 := hf T hT z hz.turn.cnr
  have a3 := hf S hS y hy.turn.turn.cnr
  refine Decidable.byContradiction fun k => ?_
  have z0 : f x = 0 := by omega
  rw [hd, z0] at p1 p2
  simp only [Int.mul_zero, Int.zero_mul, Int.zero_sub, Int.sub_zero] at p1 p2
  have n1 : g x < 0 := by
   refine Decidable.byContradiction fun k => ?_
   have := Int.mul_nonneg a2 (show 0 ≤ g x by omega)
   omega
  have := Int.mul_nonneg (show 0 ≤ - g x by omega) a3
  rw [Int.neg_mul] at this
  omega
 obtain ⟨T, hT, hp'⟩ := hc
 obtain ⟨x0, y0, h0⟩ := zJ9 hp'
 have hx0 : x0 ∈ F := (mF x0).2 (zEf hT h0.way)
 obtain ⟨x, hx, hmax⟩ := zHg g f F (List.ne_nil_of_mem hx0) fpos
 obtain ⟨R, hR, z, hz⟩ := right x hx
 have hzF : z ∈ F := (mF z).2 (zEf hR hz.way)
 have p1 := cycpos hR hz
 rw [hd] at p1
 have := hmax z hzF
 have e : f z * g x = g x * f z := Int.mul_comm _ _
 omega
theorem Tiles.open {W H : Int} {L : List Tri3} (h : Tiles W H L) {p : Pt} (hp : atRim W H p) (hc : someC L p) : ¬ allBack L p := by
 have bx : ∀ T ∈ L, ∀ q, isCnr T q → inBox W H q := by
  intro T hT q hq
  have := h.box T hT
  rcases hq with rfl | rfl | rfl
  ·exact this.1
  ·exact this.2.1
  ·exact this.2.2
 rcases hp with k | k | k | k
 ·exact zE5 h.pos (al := 1) (be := 0) (ga := 0) (by omega) (fun T hT q hq => by have := bx T hT q hq; unfold inBox at this; omega) (by omega) hc
 ·exact zE5 h.pos (al := 0) (be := 1) (ga := 0) (by omega) (fun T hT q hq => by have := bx T hT q hq; unfold inBox at this; omega) (by omega) hc
 ·exact zE5 h.pos (al := -1) (be := 0) (ga := W) (by omega) (fun T hT q hq => by have := bx T hT q hq; unfold inBox at this; omega) (by omega) hc
 ·exact zE5 h.pos (al := 0) (be := -1) (ga := H) (by omega) (fun T hT q hq => by have := bx T hT q hq; unfold inBox at this; omega) (by omega) hc
theorem zHu {W H : Int} {a b c p : Pt} (h1 : 0 < det a b c) (ba : inBox W H a) (bb : inBox W H b) (he : edg a b c p) : atRim W H p ↔ onRim W H a b := by
 obtain ⟨z, q1, q2⟩ := he
 have s := zBy a b c p
 have ex : det a b c * p.x = det b c p * a.x + det c a p * b.x + det a b p * c.x := by unfold det; grind
 have ey : det a b c * p.y = det b c p * a.y + det c a p * b.y + det a b p * c.y := by unfold det; grind
 rw [z, Int.zero_mul] at ex ey
 rw [z] at s
 have key : ∀ u v t : Int, 0 ≤ u → 0 ≤ v → det a b c * t = det b c p * u + det c a p * v → (t = 0 ↔ u = 0 ∧ v = 0) := by
  intro u v t hu hv e
  have m1 := Int.mul_nonneg (Int.le_of_lt q1) hu
  have m2 := Int.mul_nonneg (Int.le_of_lt q2) hv
  constructor
  ·intro h; rw [h, Int.mul_zero] at e
   have z1 : det b c p * u = 0 := by omega
   have z2 : det c a p * v = 0 := by omega
   rcases Int.mul_eq_zero.1 z1 with k | k <;> rcases Int.mul_eq_zero.1 z2 with k' | k' <;> omega
  ·rintro ⟨rfl, rfl⟩
   rw [Int.mul_zero, Int.mul_zero] at e
   rcases Int.mul_eq_zero.1 (show det a b c * t = 0 by omega) with k | k <;> omega
 unfold inBox at ba bb
 have k1 := key a.x b.x p.x ba.1.1 bb.1.1 (by omega)
 have k2 := key a.y b.y p.y ba.2.1 bb.2.1 (by omega)
 have s' : det b c p + det c a p = det a b c := by omega
 have w1 : det a b c * W = det b c p * W + det c a p * W := by rw [← s', Int.add_mul]
 have w2 : det a b c * H = det b c p * H + det c a p * H := by rw [← s', Int.add_mul]
 have k3 := key (W - a.x) (W - b.x) (W - p.x) (by omega) (by omega) (by rw [Int.mul_sub, Int.mul_sub, Int.mul_sub]; omega)
 have k4 := key (H - a.y) (H - b.y) (H - p.y) (by omega) (by omega) (by rw [Int.mul_sub, Int.mul_sub, Int.mul_sub]; omega)
 unfold atRim onRim
 omega
theorem ins_norim {W H : Int} {T : Tri3} {p : Pt} (hp : 0 < det T.A T.B T.C) (hb : inBox W H T.A ∧ inBox W H T.B ∧ inBox W H T.C) (hi : insT T p) : ¬ atRim W H p := by
 obtain ⟨q1, q2, q3⟩ := hi
 have s := zBy T.A T.B T.C p
 have ex : det T.A T.B T.C * p.x = det T.B T.C p * T.A.x + det T.C T.A p * T.B.x + det T.A T.B p * T.C.x := by unfold det; grind
 have ey : det T.A T.B T.C * p.y = det T.B T.C p * T.A.y + det T.C T.A p * T.B.y + det T.A T.B p * T.C.y := by unfold det; grind
 have flat : ∀ al be ga : Int, al * T.A.x + be * T.A.y + ga = 0 → al * T.B.x + be * T.B.y + ga = 0 → al * T.C.x + be * T.C.y + ga = 0 → (al ≠ 0 ∨ be ≠ 0) → False := by
  intro al be ga e1 e2 e3 hn
  have i1 : al * det T.A T.B T.C = ((al * T.B.x + be * T.B.y + ga) - (al * T.A.x + be * T.A.y + ga)) * (T.C.y - T.A.y) - ((al * T.C.x + be * T.C.y + ga) - (al * T.A.x + be * T.A.y + ga)) * (T.B.y - T.A.y) := by unfold det; grind
  have i2 : be * det T.A T.B T.C = ((al * T.C.x + be * T.C.y + ga) - (al * T.A.x + be * T.A.y + ga)) * (T.B.x - T.A.x) - ((al * T.B.x + be * T.B.y + ga) - (al * T.A.x + be * T.A.y + ga)) * (T.C.x - T.A.x) := by unfold det; grind
  rw [e1, e2, e3] at i1 i2
  simp only [Int.sub_self, Int.zero_mul] at i1 i2
  rcases Int.mul_eq_zero.1 i1 with k | k <;> rcases Int.mul_eq_zero.1 i2 with k' | k' <;> omega
 have key : ∀ al be ga : Int, (al ≠ 0 ∨ be ≠ 0) → 0 ≤ al * T.A.x + be * T.A.y + ga → 0 ≤ al * T.B.x + be * T.B.y + ga → 0 ≤ al * T.C.x + be * T.C.y + ga → al * p.x + be * p.y + ga ≠ 0 := by
  intro al be ga hn h1 h2 h3 e
  have i : det T.A T.B T.C * (al * p.x + be * p.y + ga) = det T.B T.C p * (al * T.A.x + be * T.A.y + ga) + det T.C T.A p * (al * T.B.x + be * T.B.y + ga) + det T.A T.B p * (al * T.C.x + be * T.C.y + ga) := by unfold det; grind
  rw [e, Int.mul_zero] at i
  have m1 := Int.mul_nonneg (Int.le_of_lt q2) h1
  have m2 := Int.mul_nonneg (Int.le_of_lt q3) h2
  have m3 := Int.mul_nonneg (Int.le_of_lt q1) h3
  have z1 := (Int.mul_eq_zero.1 (show det T.B T.C p * (al * T.A.x + be * T.A.y + ga) = 0 by omega)).resolve_left (by omega)
  have z2 := (Int.mul_eq_zero.1 (show det T.C T.A p * (al * T.B.x + be * T.B.y + ga) = 0 by omega)).resolve_left (by omega)
  have z3 := (Int.mul_eq_zero.1 (show det T.A T.B p * (al * T.C.x + be * T.C.y + ga) = 0 by omega)).resolve_left (by omega)
  exact flat al be ga z1 z2 z3 hn
 unfold inBox at hb
 have k1 := key 1 0 0 (by omega) (by omega) (by omega) (by omega)
 have k2 := key 0 1 0 (by omega) (by omega) (by omega) (by omega)
 have k3 := key (-1) 0 W (by omega) (by omega) (by omega) (by omega)
 have k4 := key 0 (-1) H (by omega) (by omega) (by omega) (by omega)
 unfold atRim
 omega
theorem has_box {W H : Int} {T : Tri3} {p : Pt} (hp : 0 < det T.A T.B T.C) (hb : inBox W H T.A ∧ inBox W H T.B ∧ inBox W H T.C) (hi : hasT T p) : inBox W H p := by
 obtain ⟨q1, q2, q3⟩ := hi
 have key : ∀ al be ga : Int, 0 ≤ al * T.A.x + be * T.A.y + ga → 0 ≤ al * T.B.x + be * T.B.y + ga → 0 ≤ al * T.C.x + be * T.C.y + ga → 0 ≤ al * p.x + be * p.y + ga := by
  intro al be ga h1 h2 h3
  have i : det T.A T.B T.C * (al * p.x + be * p.y + ga) = det T.B T.C p * (al * T.A.x + be * T.A.y + ga) + det T.C T.A p * (al * T.B.x + be * T.B.y + ga) + det T.A T.B p * (al * T.C.x + be * T.C.y + ga) := by unfold det; grind
  have m1 := Int.mul_nonneg q2 h1
  have m2 := Int.mul_nonneg q3 h2
  have m3 := Int.mul_nonneg q1 h3
  exact (zAu hp).1 (by omega)
 unfold inBox at *
 have k1 := key 1 0 0 (by omega) (by omega) (by omega)
 have k2 := key 0 1 0 (by omega) (by omega) (by omega)
 have k3 := key (-1) 0 W (by omega) (by omega) (by omega)
 have k4 := key 0 (-1) H (by omega) (by omega) (by omega)
 omega
theorem Tiles.cone {W H : Int} {L : List Tri3} (h : Tiles W H L) (hW : 0 < W) (hH : 0 < H) {p q : Pt} (hp : inBox W H p) (hq : inBox W H q) (hc : someC L p) : ∃ T ∈ L, ∃ b c, Cyc T p b c ∧ 0 ≤ det p b q ∧ 0 ≤ det c p q := by
 obtain ⟨v, ev⟩ : ∃ v : Pt, v = ⟨q.x - p.x, q.y - p.y⟩ := ⟨_, rfl⟩
 have evx : v.x = q.x - p.x := by rw [ev]
 have evy : v.y = q.y - p.y := by rw [ev]
 let M : Int := 1 + bigs 1 v L
 have p0 : ∀ l : List Tri3, 0 ≤ bigs 1 v l := fun l => by
  induction l with
  | nil => exact Int.le_refl 0
  | cons U l ih => unfold bigs big; omega
 have hM : 1 ≤ M := by have := p0 L; omega
 have bx : inBox (M * W) (M * H) ⟨M * p.x + v.x, M * p.y + v.y⟩ := by
  obtain ⟨⟨h1, h2⟩, h3, h4⟩ := hp
  obtain ⟨⟨k1, k2⟩, k3, k4⟩ := hq
  have j1 := Int.mul_nonneg (a := M - 1) (b := p.x) (by omega) h1
  have j2 := Int.mul_nonneg (a := M - 1) (b := p.y) (by omega) h3
  have j3 := Int.mul_le_mul_of_nonneg_left (c := M - 1) h2 (by omega)
  have j4 := Int.mul_le_mul_of_nonneg_left (c := M - 1) h4 (by omega)
  rw [Int.sub_mul, Int.one_mul] at j1 j2
  rw [Int.sub_mul, Int.sub_mul, Int.one_mul, Int.one_mul] at j3 j4
  unfold inBox
  simp only
  omega
 obtain ⟨T, hT, hh⟩ := h.covM hW hH (M := M) (by omega) bx
 have sd : ∀ a b : Pt, det (sc M a) (sc M b) ⟨M * p.x + v.x, M * p.y + v.y⟩ = M * (M * det a b p + crd a b v) := by
  intro a b
  have := zCz 1 M a b p v
  rwa [Int.mul_one, zGd, zGd, Int.one_mul] at this
 unfold hasM at hh
 rw [sd, sd, sd] at hh
 have hb := zJd 1 v hT
 unfold big at hb
 rw [Int.one_mul, Int.one_mul, Int.one_mul] at hb
 have s1 := zEr (M := 1) (K := M) (d := det T.A T.B p) (c := crd T.A T.B v) (by omega) (by rw [Int.one_mul]; omega) (by rw [Int.one_mul]; exact hh.1)
 have s2 := zEr (M := 1) (K := M) (d := det T.B T.C p) (c := crd T.B T.C v) (by omega) (by rw [Int.one_mul]; omega) (by rw [Int.one_mul]; exact hh.2.1)
 have s3 := zEr (M := 1) (K := M) (d := det T.C T.A p) (c := crd T.C T.A v) (by omega) (by rw [Int.one_mul]; omega) (by rw [Int.one_mul]; exact hh.2.2)
 obtain ⟨S, hS, hp'⟩ := hc
 have hcT := h.cnr_all hS hT hp' ⟨s1, s2, s3⟩
 obtain ⟨b, c, hcy⟩ := zJ9 hcT
 have hM0 : 0 < M := by omega
 have hh' : 0 ≤ M * (M * det p b p + crd p b v) ∧ 0 ≤ M * (M * det c p p + crd c p v) := by
  rcases hcy with ⟨rfl, rfl, rfl⟩ | ⟨rfl, rfl, rfl⟩ | ⟨rfl, rfl, rfl⟩
  ·exact ⟨hh.1, hh.2.2⟩
  ·exact ⟨hh.2.1, hh.1⟩
  ·exact ⟨hh.2.2, hh.2.1⟩
 refine ⟨T, hT, b, c, hcy, ?_, ?_⟩
 ·have e : M * det p b p + crd p b v = det p b q := by
     have z : det p b p = 0 := by unfold det; grind
     rw [z, Int.mul_zero, Int.zero_add]
     unfold crd det; rw [evx, evy]
  have := (zAu hM0).1 hh'.1
  omega
 ·have e : M * det c p p + crd c p v = det c p q := by
     have z : det c p p = 0 := by unfold det; grind
     rw [z, Int.mul_zero, Int.zero_add]
     unfold crd det; rw [evx, evy]; grind
  have := (zAu hM0).1 hh'.2
  omega
theorem zDd (T : Tri3) (L : List Tri3) (q : Pt) : someC (T :: L) q ↔ isCnr T q ∨ someC L q := by
 unfold someC; simp
theorem zDc {L M : List Tri3} (p : L.Perm M) (q : Pt) : someC L q ↔ someC M q := by
 unfold someC; simp only [p.mem_iff]
theorem zEc (L M : List Tri3) (q : Pt) : someC (L ++ M) q ↔ someC L q ∨ someC M q := by
 unfold someC
 simp only [List.mem_append]
 constructor
 ·rintro ⟨T, h | h, k⟩
  ·exact .inl ⟨T, h, k⟩
  ·exact .inr ⟨T, h, k⟩
 ·rintro (⟨T, h, k⟩ | ⟨T, h, k⟩)
  ·exact ⟨T, .inl h, k⟩
  ·exact ⟨T, .inr h, k⟩
theorem zE4 (q : Pt) : ¬ someC [] q := by unfold someC; simp
theorem cut_counts {W H : Int} {L : List Tri3} (h : Tiles W H L) (hW' : W < 16777216) (hH' : H < 16777216) {p : Pt} (hp : inBox W H p) {F : List Tri3} (hF : Spots W H L p F) :
    (∀ q, someC (F.flatMap (cutP p)) q ↔ someC F q ∨ q = p) ∧ ((F.flatMap (cutP p)).length = F.length + 2 ∧ ¬ atRim W H p ∨ (F.flatMap (cutP p)).length = F.length + 1 ∧ atRim W H p) := by
 have vb : ∀ q, inBox W H q → vld q = true := fun q hq => by rw [zAm]; unfold inBox at hq; omega
 have vp := vb p hp
 cases hF with
 | within T hT hi =>
  have hc := Cyc.refl T
  have va := vb _ (h.cyc_box hT hc)
  have vb' := vb _ (h.cyc_box hT hc.turn)
  have vc := vb _ (h.cyc_box hT hc.turn.turn)
  obtain ⟨i1, i2, i3⟩ := hi
  have e : [T].flatMap (cutP p) = [mk T.A T.B p, mk T.B T.C p, mk T.C T.A p] := by
   simp only [List.flatMap_cons, List.flatMap_nil, List.append_nil]
   unfold cutP
   rw [zAv va vb' vp i1, zAv vb' vc vp i2, zAv vc va vp i3]; rfl
  rw [e]
  have m1 := (zB3 va vb' vp i1).1
  have m2 := (zB3 vb' vc vp i2).1
  have m3 := (zB3 vc va vp i3).1
  refine ⟨fun q => ?_, .inl ⟨rfl, ins_norim (h.pos T hT) (h.box T hT) ⟨i1, i2, i3⟩⟩⟩
  simp only [zDd, m1.cnr_iff, m2.cnr_iff, m3.cnr_iff, hc.cnr_iff, iff_false_intro (zE4 q), or_false]
  constructor
  ·rintro ((k | k | k) | (k | k | k) | (k | k | k)) <;> simp [k]
  ·rintro ((k | k | k) | k) <;> simp [k]
 | rim T a b c hT hc hi hr =>
  have va := vb _ (h.cyc_box hT hc)
  have vb' := vb _ (h.cyc_box hT hc.turn)
  have vc := vb _ (h.cyc_box hT hc.turn.turn)
  have hrim := (zHu (h.cyc_pos hT hc) (h.cyc_box hT hc) (h.cyc_box hT hc.turn) hi).2 hr
  obtain ⟨i1, i2, i3⟩ := hi
  have e : ([T].flatMap (cutP p)).Perm [mk b c p, mk c a p] := by
   simp only [List.flatMap_cons, List.flatMap_nil, List.append_nil]
   have := zDt hc p
   rw [zCs va vb' vp i1, zAv vb' vc vp i2, zAv vc va vp i3] at this
   exact this
  have m2 := (zB3 vb' vc vp i2).1
  have m3 := (zB3 vc va vp i3).1
  refine ⟨fun q => ?_, .inr ⟨by rw [e.length_eq]; rfl, hrim⟩⟩
  rw [zDc e]
  simp only [zDd, m2.cnr_iff, m3.cnr_iff, hc.cnr_iff, iff_false_intro (zE4 q), or_false]
  constructor
  ·rintro ((k | k | k) | (k | k | k)) <;> simp [k]
  ·rintro ((k | k | k) | k) <;> simp [k]
 | edge T S a b c d hT hS hc hd hi hr =>
  have va := vb _ (h.cyc_box hT hc)
  have vb' := vb _ (h.cyc_box hT hc.turn)
  have vc := vb _ (h.cyc_box hT hc.turn.turn)
  have vd := vb _ (h.cyc_box hS hd.turn.turn)
  have ho := zCt (h.cyc_pos hT hc) (h.cyc_pos hS hd) hi
  have hrim : ¬ atRim W H p := fun k => hr ((zHu (h.cyc_pos hT hc) (h.cyc_box hT hc) (h.cyc_box hT hc.turn) hi).1 k)
  obtain ⟨i1, i2, i3⟩ := hi
  obtain ⟨o1, o2, o3⟩ := ho
  have e : ([T, S].flatMap (cutP p)).Perm [mk b c p, mk c a p, mk a d p, mk d b p] := by
   simp only [List.flatMap_cons, List.flatMap_nil, List.append_nil]
   have e1 := zDt hc p
   rw [zCs va vb' vp i1, zAv vb' vc vp i2, zAv vc va vp i3] at e1
   have e2 := zDt hd p
   rw [zCs vb' va vp o1, zAv va vd vp o2, zAv vd vb' vp o3] at e2
   exact e1.append e2
  have m1 := (zB3 vb' vc vp i2).1
  have m2 := (zB3 vc va vp i3).1
  have m3 := (zB3 va vd vp o2).1
  have m4 := (zB3 vd vb' vp o3).1
  refine ⟨fun q => ?_, .inl ⟨by rw [e.length_eq]; rfl, hrim⟩⟩
  rw [zDc e]
  simp only [zDd, m1.cnr_iff, m2.cnr_iff, m3.cnr_iff, m4.cnr_iff, hc.cnr_iff, hd.cnr_iff, iff_false_intro (zE4 q), or_false]
  constructor
  ·rintro ((k | k | k) | (k | k | k) | (k | k | k) | (k | k | k)) <;> simp [k]
  ·rintro (((k | k | k) | (k | k | k)) | k) <;> simp [k]
theorem Good.takesF : ∀ {F : List Tri3} {E : Es} {M : List Tri3}, Good E (F ++ M) → Good (F.foldl takeT E) M
 | [], _, _, h => h
 | T :: F, E, M, h => by
  obtain ⟨_, h2⟩ := Good.take (E := E) (T := T) (M := F ++ M) h
  exact Good.takesF (F := F) h2
theorem zG6 {p : Pt} (h : vld p = true) : okP p := by
 rw [zAm] at h
 have mn : IntKind.i64.min = -9223372036854775808 := by decide
 have mx : IntKind.i64.max = 9223372036854775807 := by decide
 have key : ∀ n : Int, 0 ≤ n → n < 16777216 → okI n := fun n h1 h2 => by
  show (decide (IntKind.i64.min ≤ n) && decide (n ≤ IntKind.i64.max)) = true
  rw [mn, mx]
  simp; omega
 exact ⟨key _ h.1.1 h.1.2, key _ h.2.1 h.2.2⟩
theorem zBz {T : Tri3} (h : valT T = true) : okT T := by
 obtain ⟨va, vb, vc, _⟩ := zCo h
 exact ⟨zG6 va, zG6 vb, zG6 vc⟩
theorem isE_sym (p q : Pt) (x : Wl) : isE p q x = isE q p x := by unfold isE; exact Bool.or_comm _ _
theorem zHj (L : List Wl) (p q : Pt) : kindD L p q = kindD L q p := by
 unfold kindD
 rw [show isE p q = isE q p from funext (isE_sym p q)]
def wll (D : List Wl) (a b : Pt) : Prop := kindD D a b ≠ 0
theorem zI4 {T : Tri3} {a b c : Pt} (h : Cyc T a b c) (h1 : a ≠ b) (h2 : b ≠ c) (h3 : c ≠ a) : apx T a b = c ∧ apx T b a = c := by
 have t : ∀ p : Pt, peqI p.x p.y p.x p.y = true := fun p => pp rfl
 unfold apx
 rcases h with ⟨rfl, rfl, rfl⟩ | ⟨rfl, rfl, rfl⟩ | ⟨rfl, rfl, rfl⟩
 ·simp [t]
 ·rw [if_pos ⟨zBa.2 h3, zBa.2 (Ne.symm h2)⟩, if_pos ⟨zBa.2 (Ne.symm h2), zBa.2 h3⟩]; exact ⟨rfl, rfl⟩
 ·simp [t, zBa.2 h3, zBa.2 (Ne.symm h2)]
theorem zI0 {T : Tri3} {a b c : Pt} (h : Cyc T a b c) (d : Pt) : circ T.A T.B T.C d = circ a b c d := by
 rcases h with ⟨rfl, rfl, rfl⟩ | ⟨rfl, rfl, rfl⟩ | ⟨rfl, rfl, rfl⟩
 ·rfl
 ·exact (zG2 T.A T.B T.C d).symm
 ·exact zG2 T.C T.A T.B d
theorem zD3 {E : Es} {T : Tri3} (h : fitsE E T = true) : freeE E T = true := by
 rw [zFv] at h
 simp only [Bool.and_eq_true] at h
 exact h.1
structure Flips (E : Es) (p q : Pt) (S R U V : Tri3) (C D : Pt) : Prop where
 h0 : getE E (p, q) = some S
 h1 : getE E (q, p) = some R
 hC : apx S p q = C
 hD : apx R p q = D
 o1 : decide (ori p D C ≤ 0) = false
 o2 : decide (ori D q C ≤ 0) = false
 hU : mk p D C = U
 hV : mk D q C = V
 he : getE E (D, C) = none
 hf : getE E (C, D) = none
 hc : okW (C, D)
 hS : okT S
 hR : okT R
 hu : okT U
 hv : okT V
 f1 : freeE (takeT (takeT E S) R) U = true
 f2 : freeE (putT (takeT (takeT E S) R) U) V = true
def flipE (E : Es) (S R U V : Tri3) : Es := putT (putT (takeT (takeT E S) R) U) V
section
variable {W H : Int} {E : Es} {L : List Tri3} {D : List Wl} (hW : W < 16777216) (hH : H < 16777216) {h : Pt → Int}
include hW hH
theorem Flp.go {K : Pt → Pt → Prop} {S R : Tri3} {M : List Tri3} {p q c d : Pt} (g : Good E L) (t : Tiles W H L) (f : Flp K L S R M p q c d) :
    Flips E p q S R (mk p d c) (mk d q c) c d ∧ Good (flipE E S R (mk p d c) (mk d q c)) (mk c p d :: mk d q c :: M) := by
 have vb : ∀ q, inBox W H q → vld q = true := fun q hq => by rw [zAm]; unfold inBox at hq; omega
 obtain ⟨bp, bq, bc, bd⟩ := f.pts t
 have mS : S ∈ L := f.perm.mem_iff.2 (by simp)
 have mR : R ∈ L := f.perm.mem_iff.2 (by simp)
 obtain ⟨n1, n2, n3⟩ := zAw (t.cyc_pos mS f.one)
 obtain ⟨m1, m2, m3⟩ := zAw (t.cyc_pos mR f.two)
 obtain ⟨u, v⟩ := f.news t hW hH
 have t' := f.tiles t hW hH
 have eU : mk p d c = mk c p d := mk_cyc c p d
 have k1 := Good.takes (F := [S, R]) (M := M) (g.order f.perm)
 have k2 : Good (takeT (takeT E S) R) M := by
  have a1 := (Good.take (E := E) (T := S) (M := R :: M) (g.order f.perm)).2
  exact (Good.take (E := takeT E S) (T := R) (M := M) a1).2
 have n0 := t'.once
 have nn : ∀ w ∈ ways (mk c p d), w ∉ M.flatMap ways := fun w hw hm => by
  rw [List.flatMap_cons, List.nodup_append] at n0
  exact n0.2.2 w hw w (by rw [List.flatMap_cons]; exact List.mem_append_right _ hm) rfl
 obtain ⟨p1, p2⟩ := Good.put (E := takeT (takeT E S) R) (T := mk c p d) (M := M) k2 u.2 nn
 have nn2 : ∀ w ∈ ways (mk d q c), w ∉ (mk c p d :: M).flatMap ways := fun w hw hm => by
  rw [List.flatMap_cons, List.nodup_append] at n0
  rw [List.flatMap_cons, List.mem_append] at hm
  rcases hm with hm | hm
  ·exact n0.2.2 w hm w (by rw [List.flatMap_cons]; exact List.mem_append_left _ hw) rfl
  ·have := n0.2.1
   rw [List.flatMap_cons, List.nodup_append] at this
   exact this.2.2 w hw w hm rfl
 obtain ⟨q1, q2⟩ := Good.put (E := putT (takeT (takeT E S) R) (mk c p d)) (T := mk d q c) (M := mk c p d :: M) p2 v.2 nn2
 rw [eU]
 refine ⟨⟨g.get.2 ⟨mS, f.one.way⟩, g.get.2 ⟨mR, f.two.way⟩, (zI4 f.one n1 n2 n3).1, (zI4 f.two m1 m2 m3).2, ?_, ?_, eU, rfl, g.get_none.2 (t.no_diag mS f.one f.left f.right), g.get_none.2 (t.no_diag mR f.two f.right f.left), ⟨zG6 (vb _ bc), zG6 (vb _ bd)⟩, zBz (g.val _ mS), zBz (g.val _ mR), zBz u.2, zBz v.2, zD3 p1, zD3 q1⟩, q2.order (List.Perm.swap _ _ _)⟩
 ·rw [ori_v (vb _ bp) (vb _ bd) (vb _ bc)]
  have := zAj (det p d c)
  have e : det p d c = det c p d := zAf c p d
  have := f.left
  simp; omega
 ·rw [ori_v (vb _ bd) (vb _ bq) (vb _ bc)]
  have := zAj (det d q c)
  have := f.right
  simp; omega
theorem bad_go (hh : Hts h) (g : Good E L) (t : Tiles W H L) {p q : Pt} (hb : badD E D p q = true) :
    ∃ S R U V C D', Flips E p q S R U V C D' ∧ ∃ L', Good (flipE E S R U V) L' ∧ Tiles W H L' ∧ Kept (wll D) L L' ∧ volS h L' < volS h L := by
 unfold badD at hb
 cases h1 : getE E (p, q) with
 | none => rw [zBq h1] at hb; simp at hb
 | some S =>
  cases h2 : getE E (q, p) with
  | none => rw [zBq h2] at hb; simp at hb
  | some R =>
   rw [zB5 h1, zB5 h2] at hb
   simp only [Bool.true_and, Bool.and_eq_true, decide_eq_true_eq] at hb
   obtain ⟨k0, kc⟩ := hb
   obtain ⟨mS, wS⟩ := g.get.1 h1
   obtain ⟨mR, wR⟩ := g.get.1 h2
   obtain ⟨c, cS⟩ := zDa wS
   obtain ⟨d, cR⟩ := zDa wR
   obtain ⟨m1, m2, m3⟩ := zAw (t.cyc_pos mR cR)
   rw [(zI4 cR m1 m2 m3).2, zI0 cS] at kc
   obtain ⟨hp, M, f⟩ := t.flip_bad (K := wll D) hW hH hh mS mR cS cR ⟨fun k => k k0, fun k => k (by rw [zHj]; exact k0)⟩ kc
   have go := f.go hW hH g t
   exact ⟨S, R, _, _, c, d, go.1, _, go.2, f.tiles t hW hH, f.kept t hW hH, f.less t hW hH hp⟩
theorem none_bad (g : Good E L) (t : Tiles W H L) (hb : badsD E D E = []) : Fixed W H (wll D) L := by
 have vb : ∀ q, inBox W H q → vld q = true := fun q hq => by rw [zAm]; unfold inBox at hq; omega
 have main : ∀ S ∈ L, ∀ R ∈ L, ∀ a b c d, Cyc S a b c → Cyc R b a d → ¬ wll D a b → cmpP a b < 0 → circ a b c d ≠ 1 := by
  intro S hS R hR a b c d cS cR hk hc he
  have e1 := g.get.2 ⟨hS, cS.way⟩
  have e2 := g.get.2 ⟨hR, cR.way⟩
  obtain ⟨m1, m2, m3⟩ := zAw (t.cyc_pos hR cR)
  have k0 : kindD D a b = 0 := Decidable.byContradiction fun k => hk k
  have hbad : badD E D a b = true := by
   unfold badD
   rw [zB5 e1, zB5 e2]
   simp only [Bool.true_and, Bool.and_eq_true, decide_eq_true_eq]
   exact ⟨k0, by rw [(zI4 cR m1 m2 m3).2, zI0 cS]; exact he⟩
  have hm : ((a, b), S) ∈ E := zIy e1
  have : (⟨a, b, 1⟩ : Wl) ∈ badsD E D E := by
   unfold badsD
   rw [List.mem_filterMap]
   exact ⟨_, hm, by simp [hbad, hc]⟩
  rw [hb] at this
  cases this
 refine ⟨t, fun S hS R hR a b c d cS cR hk he => ?_⟩
 have va := vb _ (t.cyc_box hS cS)
 have vb' := vb _ (t.cyc_box hR cR)
 have p1 := t.cyc_pos hS cS
 have p2 := t.cyc_pos hR cR
 have nab := zE2 p1
 have hs := zAj (key a - key b)
 have hck := zD6 va vb'
 by_cases hlt : cmpP a b < 0
 ·exact main S hS R hR a b c d cS cR hk hlt he
 ·have hne : key a ≠ key b := fun e => nab (zBo va vb' e)
  have hgt : cmpP b a < 0 := by
   rw [zD6 vb' va]
   have := zAj (key b - key a)
   omega
  refine main R hR S hS b a d c cR cS (fun k => hk (by unfold wll at *; rw [zHj]; exact k)) hgt ?_
  have vd := vb _ (t.cyc_box hR cR.turn.turn)
  have vc := vb _ (t.cyc_box hS cS.turn.turn)
  have o1 : ¬ ori a b c = 0 := by rw [ori_v va vb' vc, zBl]; omega
  have o2 : ¬ ori a b d = 0 := by
   rw [ori_v va vb' vd, zBl]
   rw [zCm] at p2; omega
  have dc : d ≠ c := by
   rintro rfl
   rw [zCm] at p2; omega
  rw [zHz, circ_last o1 o2 dc, he]; rfl
end
end Go.Proofs.YtmobnmjjmafibaaGreat
namespace Go.Proofs.YtmobnmjjmafibaaGreat
open Go.RowKit Go.Sort
attribute [local go_sem] rOper rAt rUpon cell_set sg_i64 sg_u64 alloc_cell alloc_frozen
attribute [local go_sem 10000] pt_eql pt_neq tri_eql
attribute [local irreducible] rWalk
theorem cW_ne (x : Wl) : cW x ≠ [] := by simp [cW]
theorem DocRd.turn {w w' : World} {db c n b : Nat} {a0 : Option Addr} {L : List Wl} {E : Es} (S : DocRd w db a0 c n L) (H : HoldsMap eW eT okW w b E) (hg : w.grownBy w' (some b)) : DocRd w' db a0 c n L :=
 ⟨S.box.turn H hg, S.row.turn cW_ne H hg, S.len, S.le, S.nc, S.flat⟩
theorem zIx {E : Es} {L : List Tri3} (g : Good E L) : ∀ e ∈ E, okW e.1 := fun e he => by
 obtain ⟨w, T⟩ := e
 obtain ⟨hT, hw⟩ := zI8.1 (g.perm.mem_iff.1 he)
 have ok := okT_w (zBz (g.val T hT))
 simp only [ways, List.mem_cons, List.not_mem_nil, or_false] at hw
 rcases hw with rfl | rfl | rfl
 ·exact ok.1
 ·exact ok.2.1
 ·exact ok.2.2
structure RSt (W H : Int) (D : List Wl) (L : List Tri3) (E1 : Es) (L1 : List Tri3) : Prop where
 good : Good E1 L1
 tiles : Tiles W H L1
 kept : Kept (wll D) L L1
def RepPost (W H : Int) (b : Nat) (D : List Wl) (L : List Tri3) (w : World) (e : Ending) (w' : World) : Prop :=
 e = .returned (.tuple #[]) ∧ ∃ E1 L1, w.grownBy w' (some b) ∧ HoldsMap eW eT okW w' b E1 ∧ RSt W H D L E1 L1 ∧ Fixed W H (wll D) L1
theorem zEu (mb b db : Nat) (a0 : Option Addr) (c n : Nat) (E : Es) (L : List Tri3) (D : List Wl) (W H : Int) (hW : W < 16777216) (hH : H < 16777216) (hL : L.length ≤ 30000) (g : Good E L) (ti : Tiles W H L) (w : World) (Bm : Box w mb [.map (some b)] 41) (Hm : HoldsMap eW eT okW w b E) (Dw : DocRd w db a0 c n D) :
    Calls Tryz.prog 71 #[.pointer (some ⟨mb, 0, none⟩), .pointer (some ⟨db, 0, none⟩)] w (RepPost W H b D L w) := by
 obtain ⟨h, hh⟩ := hts_ex
 have S0 := Lib.hid (show RSt W H D L E L from ⟨g, ti, Kept.refl _ _⟩)
 have HLL := Lib.hid hL
 clear g ti hL
 go_enter Tryz.func71, Tryz.ntmps71
 go_wp2
 go_loopg [4] ((volS h L).toNat + 1) (fun k v wr => ∃ (E1 : Es) (L1 : List Tri3) (ag : Bool), v = .bool ag ∧ HoldsMap eW eT okW wr b E1 ∧ Hid (RSt W H D L E1 L1) ∧ Hid (ag = false → Fixed W H (wll D) L1) ∧ Hid (ag = true → (volS h L1).toNat < k) ∧ w.grownBy wr (some b))
 case atStart => exact ⟨E, L, true, rfl, Hm, S0, Lib.hid (fun e => by cases e), Lib.hid (fun _ => Nat.lt_succ_self _), zEk _ _⟩
 case round =>
  obtain ⟨E1, L1, ag, rfl, H1, hS, hF, hV, hg⟩ := hrel
  cases ag with
  | false =>
   have HFX := Lib.hid (hF.out rfl)
   clear hF hV
   go_wp2
   exact bodyPost_end (results_none rfl _ _ _) rfl ⟨rfl, E1, L1, hg, H1, hS.out, HFX.out⟩
  | true =>
   have HV := Lib.hid (hV.out rfl)
   clear hV
   have B1 := Bm.turn Hm hg
   have D1 := Dw.turn Hm hg
   have hlen : L1.length ≤ 30000 := by rw [hS.out.kept.len]; exact HLL.out
   have hE1 : E1.length ≤ 100000 := by rw [hS.out.good.len]; omega
   have cB := rBad_any mb b db a0 c n E1 D hE1 (zIx hS.out.good) wr B1 H1 D1
   have hE2 := Lib.hid hE1
   clear hlen hE1 hF
   go_wp2_with fail
   refine cB.mono ?_
   rintro e w2 ⟨a, cap, l, rfl, hl, hr, hb⟩
   have hll := Lib.hid (show l.length ≤ 100000 by rw [hl.length_eq]; exact Nat.le_trans (zI2 E1 D E1) hE2.out)
   have HLB := Lib.hid hl
   have g2 := zAg hg hb
   have H2 := H1.ee hb
   clear cB hb hl B1 D1 H1 hE2
   obtain ⟨m, hm⟩ : ∃ m, l.length = m := ⟨_, rfl⟩
   have HM := Lib.hid hm
   rw [hm] at hll
   rw [hm]
   clear hm
   go_wp2
   go_loopw [4, 6] (fun v4 v6 wi => ∃ (i : Nat) (E2 : Es) (L2 : List Tri3) (ag : Bool), v4 = .bool ag ∧ v6 = .int .i64 i ∧ i ≤ m ∧ HoldsMap eW eT okW wi b E2 ∧ Hid (RSt W H D L E2 L2) ∧ Hid ((i = 0 ∧ ag = false ∧ E2 = E1 ∧ L2 = L1) ∨ (0 < i ∧ ag = true ∧ volS h L2 < volS h L1)) ∧ RowAt cW 5 wi a l ∧ w.grownBy wi (some b)) (fun _ v6 _ => m - (intOf v6).toNat)
   case atStart => exact ⟨0, E1, L1, false, rfl, rfl, Nat.zero_le _, H2, hS, Lib.hid (.inl ⟨rfl, rfl, rfl, rfl⟩), hr, g2⟩
   case round =>
    clear g2 H2 hr
    obtain ⟨i, E2, L2, ag, rfl, rfl, hi, H2, hS2, hC, hr, g2⟩ := hrel
    have hm1 := hll.out
    by_cases hlt : i < m
    ·have hil : i < l.length := by rw [HM.out]; exact hlt
     have B2 := Bm.turn Hm g2
     have D2 := Dw.turn Hm g2
     obtain ⟨ad, A, ea, eA, hA⟩ := hr.five (j := i) hil
     have hmem : l[i] ∈ badsD E1 D E1 := HLB.out.mem_iff.1 (List.getElem_mem hil)
     generalize l[i] = X at hA hmem
     obtain ⟨XA, XB, XK⟩ := X
     have hk2 : okW (XA, XB) := by
      unfold badsD at hmem
      rw [List.mem_filterMap] at hmem
      obtain ⟨e, he, hx⟩ := hmem
      split at hx
      ·simp only [Option.some.injEq, Wl.mk.injEq] at hx
       have := zIx hS.out.good e he
       rw [← hx.1, ← hx.2.1]; exact this
      ·cases hx
     have HBAD := Lib.hid (show badD E1 D XA XB = true by
      unfold badsD at hmem
      rw [List.mem_filterMap] at hmem
      obtain ⟨e, he, hx⟩ := hmem
      split at hx
      ·rename_i hc
       simp only [Option.some.injEq, Wl.mk.injEq] at hx
       simp only [Bool.and_eq_true] at hc
       rw [← hx.1, ← hx.2.1]; exact hc.2
      ·cases hx)
     have q0 : (i : Int) < (m : Int) := by omega
     obtain ⟨s0, s1, s2, s3, s4⟩ := hA.cells
     have cb : ∀ d os, Calls Tryz.prog 112 #[.pointer (some ⟨mb, 0, none⟩), .pointer (some ⟨db, 0, none⟩), .agg #[.int .i64 XA.x, .int .i64 XA.y], .agg #[.int .i64 XB.x, .int .i64 XB.y]] (grow (redrawn wr d) os) fun e w' => e = .returned (.bool (badD E2 D XA XB)) ∧ Below (grow (redrawn wr d) os).heap.size (grow (redrawn wr d) os) w' := fun d os => zIg mb b db a0 c n E2 D XA XB hk2 _ (B2.ext (below_regrown wr d os) rfl) (H2.ext (below_regrown wr d os) rfl) (D2.ext (below_regrown wr d os) rfl)
     clear hmem
     subst ea
     cases hbd : badD E2 D XA XB with
     | false =>
      rw [hbd] at cb
      have HNZ := Lib.hid (show 0 < i ∧ ag = true ∧ volS h L2 < volS h L1 by
       rcases hC.out with ⟨_, _, e1, _⟩ | k
       ·rw [e1, HBAD.out] at hbd; cases hbd
       ·exact k)
      clear hC HBAD hA hbd
      go_wp2_with fail
      refine wp_region_tail 25 (by kernel_rfl) (by kernel_rfl) (C := fun w' => ∃ p : Regrown, w' = grow (redrawn wr p.d) p.os) rgB ?_
      simp only [tK1, tK0, dP1, dP0]
      repeat (first | (refine zA0 (Eq.refl false) ?_; simp only [Act.put, sT2, sT1, sT0]) | (refine rWalk_step (fun K hK => ?_); go_simp; first | (refine hK _ ?_; clear hK K) | (apply Exists.intro; refine ⟨fun _ => ?_, hK _ ?_⟩; (first | with_reducible exact toExtD cb _ _); clear hK K)))
      refine rWalk_nil ?_
      intro w4 hb
      clear s0 s1 s2 s3 s4
      have H4 := H2.ee hb
      have r4 := hr.ee hb
      have g4 := zAg g2 hb
      clear hb cb
      go_wp2
      go_roundw
      case rel => exact ⟨i + 1, E2, L2, true, by rw [HNZ.out.2.1], by go_num, by omega, H4, hS2, Lib.hid (.inr ⟨by omega, rfl, HNZ.out.2.2⟩), r4, g4⟩
      case measure => simp [intOf]; omega
     | true =>
      rw [hbd] at cb
      obtain ⟨S, R, U, V, C, D', fl, L3, g3, t3, k3, v3⟩ := bad_go hW hH hh hS2.out.good hS2.out.tiles hbd
      have HS3 := Lib.hid (show RSt W H D L (flipE E2 S R U V) L3 from ⟨g3, t3, hS2.out.kept.trans k3⟩)
      have HV3 := Lib.hid (show volS h L3 < volS h L1 by
       rcases hC.out with ⟨_, _, _, e2⟩ | ⟨_, _, k⟩
       ·rw [← e2]; exact v3
       ·omega)
      have cf := fun w0 B1 H1 => rflip_ok mb b E2 XA XB hk2 S R U V C D' fl.h0 fl.h1 fl.hC fl.hD fl.o1 fl.o2 fl.hU fl.hV fl.he fl.hf fl.hc fl.hS fl.hR fl.hu fl.hv fl.f1 fl.f2 w0 B1 H1
      change ∀ (w0 : World) B1 H1, Calls _ _ _ _ fun e w' => e = .returned (.int .i64 0) ∧ w0.grownBy w' (some b) ∧ HoldsMap eW eT okW w' b (flipE E2 S R U V) at cf
      clear hC HBAD hA hbd fl g3 t3 k3 v3
      generalize flipE E2 S R U V = E3 at *
      go_wp2_with fail
      refine wp_region_tail 25 (by kernel_rfl) (by kernel_rfl) (C := fun w' => ∃ p : Regrown, w' = grow (redrawn wr p.d) p.os) rgB ?_
      simp only [tK1, tK0, dP1, dP0]
      repeat (first | (refine zA0 (Eq.refl false) ?_; simp only [Act.put, sT2, sT1, sT0]) | (refine rWalk_step (fun K hK => ?_); go_simp; first | (refine hK _ ?_; clear hK K) | (apply Exists.intro; refine ⟨fun _ => ?_, hK _ ?_⟩; (first | with_reducible exact toExtD cb _ _); clear hK K)))
      refine rWalk_nil ?_
      intro w4 hb
      clear s0 s1 s2 s3 s4
      have H4 := H2.ee hb
      have r4 := hr.ee hb
      have g4 := zAg g2 hb
      have B4 := B2.ee hb
      clear hb cb
      go_wp2_with fail
      refine (cf _ B4 H4).mono ?_
      rintro e w5 ⟨rfl, hg5, H5⟩
      have r5 := r4.turn cW_ne H4 hg5
      have g5 := zAe g4 hg5
      clear cf hg5 H4 r4 g4 B4
      go_wp2
      go_roundw
      case rel => exact ⟨i + 1, E3, L3, true, rfl, by go_num, by omega, H5, HS3, Lib.hid (.inr ⟨by omega, rfl, HV3.out⟩), r5, g5⟩
      case measure => simp [intOf]; omega
    ·have q0 : decide ((i : Int) < (m : Int)) = false := by simpa using hlt
     have him : i = m := by omega
     have HE := Lib.hid (show (ag = false → Fixed W H (wll D) L2) by
      intro e
      rcases hC.out with ⟨e0, _, _, e2⟩ | ⟨_, e1, _⟩
      ·have l0 : l = [] := List.length_eq_zero_iff.1 (by rw [HM.out, ← him, e0])
       rw [e2]
       exact none_bad hW hH hS.out.good hS.out.tiles (List.Perm.eq_nil (by have := HLB.out; rw [l0] at this; exact this.symm))
      ·rw [e] at e1; cases e1)
     have HT := Lib.hid (show (ag = true → (volS h L2).toNat < (volS h L1).toNat) by
      intro e
      rcases hC.out with ⟨_, e1, _, _⟩ | ⟨_, _, k⟩
      ·rw [e] at e1; cases e1
      ·have := hS2.out.tiles.vols hW hH hh; omega)
     clear hC
     go_wp2
     go_roundg (volS h L1).toNat
     case measure => exact HV.out
     case rel => exact ⟨E2, L2, ag, rfl, H2, hS2, HE, HT, g2⟩
end Go.Proofs.YtmobnmjjmafibaaGreat
