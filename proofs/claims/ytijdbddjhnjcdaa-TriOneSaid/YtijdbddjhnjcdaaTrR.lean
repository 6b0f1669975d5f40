/- The document's own SortPoints over three points, each another one. -/
import Derived.Test.YtijdbddjhnjcdaaRows
import Derived.Test.YtijdbddjhnjcdaaTrN
import Derived.Test.YtijdbddjhnjcdaaPost
import Derived.WalkKit
import Derived.WalkSpells
import Derived.WalkLawsBesides
import Derived.Laws.Externs
import Derived.Deep.QuietTactic
import Derived.BigQuiet
import Derived.Lib.Hide
import Derived.Handy
import Derived.LoopN
import Derived.OwnWalk
import Derived.Laws.AppendOwn
namespace Go.Proofs.Ytijdbddjhnjcdaa
open Go.RowKit Go.Sort
attribute [local go_sem] rOper rAt rUpon cell_set sg_i64 sg_u64 alloc_cell alloc_frozen
attribute [local go_sem 10000] pt_eql pt_neq
attribute [local irreducible] rWalk

theorem info_point : (Try.prog.info? 23).map (fun i => (i.zero, i.size, i.bytes)) = some (some (.agg #[.int .i64 0, .int .i64 0]), 2, 16) := by kernel_rfl
theorem owns_of_box {w : World} {B g n cap : Nat} {xs tl : List Value} {T : TypeId} (h : Box w g (xs ++ tl) T) (hB : B ≤ g) (hl : xs.length = n * 2) (hn : n ≤ cap) (hc : cap ≤ maxLen) (ht : tl.length = (cap - n) * 2) :
    w.ownsRow B T 2 (.slice (some ⟨g, 0, none⟩) n cap) n xs := by
  refine ⟨hl, Or.inr ⟨g, cap, (xs ++ tl).toArray, rfl, hB, h, hn, hc, ?_, ?_⟩⟩
  · simp [hl, ht]; omega
  · simp [← hl]
theorem Box.grownBy {w w' : World} {b : Nat} {cs : List Value} {T : TypeId} {row : Option Nat} (h : Box w b cs T) (hg : w.grownBy w' row) (hne : some b ≠ row) : Box w' b cs T := by
  have hl := h.lt
  unfold Box at *
  rw [hg.block b hl hne]; exact h
/-- One point appended to a row of the call's own. -/
theorem append_pt {w : World} {ops : Array Oper} {rest : List Oper} {o : Oper} {a : Act} {Q : Exit → Act → World → Prop} (hgd : o.guard = none) (s x : Operand)
    (ho : o.op = .call { callee := .builtin .append, args := #[s, x], argTypes := #[32, 32] })
    (B n : Nat) (v : Value) (xs : List Value) (hs : a.eval s = v) (hown : w.ownsRow B 23 2 v n xs)
    (bx : Nat) (p : Pt) (hx : a.eval x = .slice (some ⟨bx, 0, none⟩) 1 1) (hbx : Box w bx [.int .i64 p.x, .int .i64 p.y] 23) (hn : n ≤ 1000000) (hbase : B ≤ w.heap.size)
    (h : ∀ w' g cap tl, B ≤ g → Box w' g (xs ++ .int .i64 p.x :: .int .i64 p.y :: tl) 23 → n + 1 ≤ cap → cap ≤ maxLen → tl.length = (cap - (n + 1)) * 2 → w.grownBy w' v.ownBlock →
      wpList Try.prog ops Q rest (a.put o.dst (.slice (some ⟨g, 0, none⟩) (n + 1) cap)) w') : wpList Try.prog ops Q (o :: rest) a w := by
  obtain ⟨i0, hi, hz0, hz1, hz2⟩ := info_parts info_point
  refine wpList_append_own w hgd s x 32 ho B 23 i0 _ 2 16 Try.underlying32 hi hz0 hz1 hz2 rfl (by decide) v n xs hs hown ⟨bx, 0, none⟩ 1 1 [.int .i64 p.x, .int .i64 p.y] hx rfl ?_ ?_ ?_ ?_ hbase ?_
  · intro j u hj
    have := hbx.facts.1
    match j, hj with
    | 0, hj => simp at hj; subst hj; simp [Addr.add, this]
    | 1, hj => simp at hj; subst hj; simp [Addr.add, this]
  · intro u hu; simp at hu; rcases hu with rfl | rfl <;> rfl
  · unfold maxLen; omega
  · omega
  · intro v' w' hown' hg _
    obtain ⟨hl, ⟨_, h0⟩ | ⟨g, cap, cur, rfl, hB, hb, h1, h2, h3, h4⟩⟩ := hown'
    · omega
    · refine h w' g cap (cur.toList.drop ((n + 1) * 2)) hB ?_ h1 h2 ?_ hg
      · unfold Box
        rw [hb]
        have e : xs ++ .int .i64 p.x :: .int .i64 p.y :: cur.toList.drop ((n + 1) * 2) = cur.toList := by
          rw [show xs ++ .int .i64 p.x :: .int .i64 p.y :: cur.toList.drop ((n + 1) * 2) = (xs ++ [.int .i64 p.x, .int .i64 p.y]) ++ cur.toList.drop ((n + 1) * 2) by simp, ← h4, List.take_append_drop]
        rw [e]
      · rw [List.length_drop, Array.length_toList, h3, Nat.sub_mul]
end Go.Proofs.Ytijdbddjhnjcdaa
