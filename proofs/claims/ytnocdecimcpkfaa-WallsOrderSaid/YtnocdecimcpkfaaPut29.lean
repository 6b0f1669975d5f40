/- Put together: WalZ, WalRow, Trod, Flow. -/
import Derived.Test.YtnocdecimcpkfaaRows
import Derived.Test.YtnocdecimcpkfaaPut28
import Derived.Test.YtnocdecimcpkfaaPut23
import Derived.Test.YtnocdecimcpkfaaPut2
import Derived.WalkKit
import Derived.WalkSpells
import Derived.WalkLawsBesides
import Derived.Deep.QuietTactic
import Derived.BigQuiet
import Derived.Lib.Hide
import Derived.Handy
import Derived.Test.YtnocdecimcpkfaaPut19
import Derived.ProofKit
import Derived.Lib.SmallJoins
import Derived.Deep.Strs
import Derived.Deep.Slices
import Derived.Carry
import Derived.WideKeyArgs
import Derived.Test.YtnocdecimcpkfaaPut1
namespace Go.Proofs.Ytnocdecimcpkfaa
open Go.RowKit Go.Sort Go.Lib

/-- Two sets and a row of the call's own (n: what lay there at its beginning). -/
structure Both (w wr : World) (sb tb : Nat) (vs vt vr : Value) (Ls Lt In : List Wl) : Prop where
  S : SetAt wr sb vs Ls
  T : SetAt wr tb vt Lt
  R : WRow wr w.heap.size vr In
  st : ∀ k, Foot sb vs k → ¬ Foot tb vt k
  sr : ∀ g, vr.ownBlock = some g → ¬ Foot sb vs g
  tr : ∀ g, vr.ownBlock = some g → ¬ Foot tb vt g
  slo : ∀ k, Foot sb vs k → w.heap.size ≤ k
  tlo : ∀ k, Foot tb vt k → w.heap.size ≤ k
  hw : Below w.heap.size w wr
theorem foot_lt {w : World} {sb : Nat} {v : Value} {L : List Wl} (S : SetAt w sb v L) : ∀ k, Foot sb v k → k < w.heap.size := fun k h => by
  rcases h with h | h
  · rw [h]; exact S.box.lt
  · exact (S.row.lt k h).2
theorem foot_step {sb n : Nat} {v v' : Value} (hf : Fresh v v' n) : ∀ k, Foot sb v' k → Foot sb v k ∨ n ≤ k := fun k h => by
  rcases h with h | h
  · exact .inl (.inl h)
  · rcases hf k h with h | h
    · exact .inl (.inr h)
    · exact .inr h
variable {w wr w' : World} {sb tb : Nat} {vs vt vr v' : Value} {Ls Lt In L' : List Wl}
theorem Both.ext (B : Both w wr sb tb vs vt vr Ls Lt In) (hb : Below wr.heap.size wr w') : Both w w' sb tb vs vt vr Ls Lt In :=
  ⟨B.S.ext hb rfl, B.T.ext hb rfl, B.R.ext hb rfl, B.st, B.sr, B.tr, B.slo, B.tlo, B.hw.trans (hb.mono B.hw.size)⟩
theorem Both.alloc (B : Both w wr sb tb vs vt vr Ls Lt In) (o : Obj) : Both w (wr.alloc o) sb tb vs vt vr Ls Lt In := B.ext ((Below.refl _ wr).alloc (Nat.le_refl _) o)
theorem Both.addS (B : Both w wr sb tb vs vt vr Ls Lt In) {n : Nat} (S' : SetAt w' sb v' L') (hf : Frm wr w' (Foot sb vs)) (hs : Fresh vs v' n) (hn : wr.heap.size ≤ n) : Both w w' sb tb v' vt vr L' Lt In := by
  have ht := foot_lt B.T
  have hr := B.R.lt
  refine ⟨S', B.T.keep hf (fun h => B.st _ h (.inl rfl)) (fun g e h => B.st _ h (.inr e)), hf.row B.R (fun g e => B.sr g e), fun k h h2 => ?_, fun g e h => ?_, B.tr, fun k h => ?_, B.tlo, B.hw.trans (hf.below B.slo B.hw.size)⟩
  · rcases foot_step hs k h with h | h
    · exact B.st k h h2
    · have := ht k h2; omega
  · rcases foot_step hs g h with h | h
    · exact B.sr g e h
    · have := (hr g e).2; omega
  · rcases foot_step hs k h with h | h
    · exact B.slo k h
    · have := B.hw.size; omega
theorem Both.addT (B : Both w wr sb tb vs vt vr Ls Lt In) {n : Nat} (T' : SetAt w' tb v' L') (hf : Frm wr w' (Foot tb vt)) (hs : Fresh vt v' n) (hn : wr.heap.size ≤ n) : Both w w' sb tb vs v' vr Ls L' In := by
  have ht := foot_lt B.S
  have hr := B.R.lt
  refine ⟨B.S.keep hf (fun h => B.st _ (.inl rfl) h) (fun g e h => B.st _ (.inr e) h), T', hf.row B.R (fun g e => B.tr g e), fun k h h2 => ?_, B.sr, fun g e h => ?_, B.slo, fun k h => ?_, B.hw.trans (hf.below B.tlo B.hw.size)⟩
  · rcases foot_step hs k h2 with h2 | h2
    · exact B.st k h h2
    · have := ht k h; omega
  · rcases foot_step hs g h with h | h
    · exact B.tr g e h
    · have := (hr g e).2; omega
  · rcases foot_step hs k h with h | h
    · exact B.tlo k h
    · have := B.hw.size; omega
theorem Both.app (B : Both w wr sb tb vs vt vr Ls Lt In) (R' : WRow w' w.heap.size v' L') (hg : wr.grownBy w' vr.ownBlock) (hs : Fresh vr v' wr.heap.size) : Both w w' sb tb vs vt v' Ls Lt L' := by
  have h1 := foot_lt B.S
  have h2 := foot_lt B.T
  have hf : Frm wr w' (fun k => vr.ownBlock = some k) := Frm.of_grown hg fun g e => e
  refine ⟨B.S.keep hf (fun e => B.sr _ e (.inl rfl)) (fun g e e2 => B.sr _ e2 (.inr e)), B.T.keep hf (fun e => B.tr _ e (.inl rfl)) (fun g e e2 => B.tr _ e2 (.inr e)), R', B.st, fun g e h => ?_, fun g e h => ?_, B.slo, B.tlo, B.hw.trans (hf.below (fun k e => (B.R.lt k e).1) B.hw.size)⟩
  · rcases hs g e with e | e
    · exact B.sr g e h
    · have := h1 g h; omega
  · rcases hs g e with e | e
    · exact B.tr g e h
    · have := h2 g h; omega
attribute [local go_sem] rOper rAt rUpon cell_set sg_i64 sg_u64 alloc_cell alloc_frozen
theorem round_eqW {i n : Int} (hn : 0 < n) (hn2 : n ≤ 4294967296) : (wrap64 (i.tmod n + n)).tmod n = i % n := by
  have h1 : 0 ≤ i % n := Int.emod_nonneg i (by omega)
  have h2 : i % n < n := Int.emod_lt_of_pos i hn
  have h3 : i.tmod n = i % n ∨ i.tmod n = i % n - n := by
    have h := @Int.tmod_eq_emod i n
    split at h
    · left; omega
    · right; rw [h]; omega
  have h4 : wrap64 (i.tmod n + n) = i.tmod n + n := by rw [w64]; omega
  rw [h4, Int.tmod_eq_emod_of_nonneg (by omega)]
  rcases h3 with h | h <;> rw [h]
  · rw [Int.add_emod_right]; exact Int.emod_eq_of_lt h1 h2
  · rw [show i % n - n + n = i % n by omega]; exact Int.emod_eq_of_lt h1 h2
theorem round_W {i n : Int} (hn : 0 < n) (hn2 : n ≤ 4294967296) (w : World) :
    Calls Try.prog 31 #[.int .i64 i, .int .i64 n] w fun e w' => e = .returned (.int .i64 (i % n)) ∧ Below w.heap.size w w' := by
  rw [← round_eqW hn hn2]
  have h0 : (n == 0) = false := by simp; omega
  have h1 : n ≠ 0 := by omega
  go_enter Try.func31, Try.ntmps31
  go_wp2
  all_goals go_ret
  all_goals exact ⟨rfl, by go_grown⟩
end Go.Proofs.Ytnocdecimcpkfaa

namespace Go.Proofs.Ytnocdecimcpkfaa
open Go.RowKit Go.Sort Go.ChangeShapes Go.WideShapes Go.ChangeAt
section
variable {H : Type} {enc : TypeId × Value → H} {w : World} {base : Nat → Bool} {spare : Bool}
theorem trod_ptW {b0 : Nat} {fuel : Nat} {u v : Value} {y : DataW H × List MemPlace} (h : DataW.trod enc Try.prog w b0 base spare fuel 33 [u, v] = some y) :
    ∃ a b, u = .int .i64 a ∧ v = .int .i64 b := by
  obtain ⟨y0, y1, n, rfl, hl, h0, h1⟩ := trod_struct2 Try.underlying33 h
  rw [show Try.prog.cellsOf 3 = 1 by kernel_rfl] at h0 h1
  simp only [List.drop_zero, List.take_succ_cons, List.take_zero, List.drop_succ_cons] at h0 h1
  obtain ⟨a, ha, rfl, wa⟩ := DataW.trod_int Try.underlying3 h0
  obtain ⟨b, hb, rfl, wb⟩ := DataW.trod_int Try.underlying3 h1
  simp at ha hb
  exact ⟨a, b, ha, hb⟩
theorem list5 {l : List Value} (h : l.length = 5) : ∃ a b c d e, l = [a, b, c, d, e] := by
  match l, h with
  | [a, b, c, d, e], _ => exact ⟨a, b, c, d, e, rfl⟩
set_option maxRecDepth 100000 in
theorem trod_wal {b0 : Nat} {fuel : Nat} {cs : List Value} {y : DataW H × List MemPlace} (hl : cs.length = 5) (hf : DataW.trod enc Try.prog w b0 base spare fuel 35 cs = some y) :
    ∃ T : Wl, cs = cW T := by
  obtain ⟨c0, c1, c2, c3, c4, hc⟩ := list5 hl
  subst hc
  obtain ⟨y0, y1, y2, n, hx, _, h0, h1, h2⟩ := Deep.trod_struct3 Try.underlying35 hf
  have e2 : Try.prog.cellsOf 33 = 2 := by kernel_rfl
  have e1 : Try.prog.cellsOf 3 = 1 := by kernel_rfl
  simp only [e1, e2] at h0 h1 h2
  simp only [List.drop_zero, List.take_succ_cons, List.take_zero, List.drop_succ_cons] at h0 h1 h2
  obtain ⟨a0, a1, rfl, rfl⟩ := trod_ptW h0
  obtain ⟨a2, a3, rfl, rfl⟩ := trod_ptW h1
  obtain ⟨a4, h4, rfl, _⟩ := DataW.trod_int Try.underlying3 h2
  simp at h4
  subst h4
  exact ⟨⟨⟨a0, a1⟩, ⟨a2, a3⟩, a4⟩, rfl⟩
set_option maxRecDepth 100000 in
theorem open_rowW {r : Reach} {b0 b1 : Nat} {v : Value} {d : DataW H} {p : List MemPlace} (hv : Value.okWide Try.prog w r b1 22 v) (h : DataW.Trod enc Try.prog w b0 base spare 22 v d p) :
    ∃ (a : Option Addr) (n cap : Nat) (L : List Wl), v = .slice a n cap ∧ L.length = n ∧ RowAt cW 5 w a L := by
  obtain ⟨a0, n0, k0, rfl⟩ := okWide_slice Try.underlying22 hv
  obtain ⟨fuel, hf⟩ := h
  simp only [Value.cells] at hf
  rcases Deep.open_slice Try.underlying22 hf with ⟨hcs, _⟩ | ⟨a, len, cap, m, n, D, Pl, hcs, hb, hl, hm, hmm, hx, hi⟩
  · simp only [List.cons.injEq, Value.slice.injEq, and_true] at hcs
    obtain ⟨rfl, rfl, rfl⟩ := hcs
    exact ⟨none, 0, 0, [], rfl, rfl, fun j x hx => (by simp at hx)⟩
  · simp only [List.cons.injEq, Value.slice.injEq, and_true] at hcs
    obtain ⟨rfl, rfl, rfl⟩ := hcs
    have hlm : n0 ≤ m := by rw [hmm]; split <;> omega
    have each : ∀ i, i < n0 → ∃ T : Wl, ∀ j u, (cW T)[j]? = some u → w.cell? ((a.add (i * 5)).add j) = some u := fun i hin => by
      obtain ⟨cs', h1, h2⟩ := hi i (by omega)
      rw [show Try.prog.cellsOf 35 = 5 by kernel_rfl] at h1
      obtain ⟨_, hlen, hcell⟩ := World.cells?_some h1
      obtain ⟨T, rfl⟩ := trod_wal hlen h2
      refine ⟨T, fun j u hu => ?_⟩
      rw [hcell j (by have := (List.getElem?_eq_some_iff.1 hu).1; rwa [hlen] at this)]; exact hu
    obtain ⟨f, hf2⟩ := Deep.choose_lt each
    refine ⟨some a, n0, k0, (List.range n0).map f, rfl, by simp, fun j x hx => ?_⟩
    rw [List.getElem?_map] at hx
    obtain ⟨i, hi1, rfl⟩ := Option.map_eq_some_iff.1 hx
    have hj : j < n0 ∧ i = j := by
      obtain ⟨h1, h2⟩ := List.getElem?_eq_some_iff.1 hi1
      simp at h1 h2; exact ⟨h1, h2.symm⟩
    obtain ⟨hj, rfl⟩ := hj
    have hc := hf2 i hj
    refine ⟨a, rfl, ?_, hc⟩
    have h4 := hc 0 _ rfl
    unfold World.cell? at h4
    rw [addr_block, addr_block] at h4
    rcases Nat.lt_or_ge a.block w.heap.size with h' | h'
    · exact h'
    · simp [Array.getElem?_eq_none h'] at h4
end
end Go.Proofs.Ytnocdecimcpkfaa

namespace Go.Proofs.Ytnocdecimcpkfaa
open Go.RowKit Go.Sort Go.ChangeShapes Go.WideShapes Go.ChangeAt

section
variable {H : Type} {enc : TypeId × Value → H} {P : Program} {w : World} {base : Nat} {spare : Nat → Bool} {held : Bool}
theorem trodAll_five {t0 t1 t2 t3 t4 : TypeId} {args : Array Value} {ds : List (DataW H)} {ps : List MemPlace} (h : DataW.TrodAll enc P w base spare held [t0, t1, t2, t3, t4] args.toList ds ps) :
    ∃ v0 v1 v2 v3 v4 d0 d1 d2 d3 d4 q0 q1 q2 q3 q4, args = #[v0, v1, v2, v3, v4] ∧ ds = [d0, d1, d2, d3, d4] ∧ ps = q0 ++ (q1 ++ (q2 ++ (q3 ++ q4))) ∧ DataW.Trod enc P w base spare held t0 v0 d0 q0 ∧ DataW.Trod enc P w base spare held t1 v1 d1 q1 ∧ DataW.Trod enc P w base spare held t2 v2 d2 q2 ∧ DataW.Trod enc P w base spare held t3 v3 d3 q3 ∧ DataW.Trod enc P w base spare held t4 v4 d4 q4 := by
  obtain ⟨v0, vs0, d0, ds0, q0, r0, hargs, rfl, rfl, h0, k0⟩ := trodAll_cons h
  obtain ⟨v1, vs1, d1, ds1, q1, r1, rfl, rfl, rfl, h1, k1⟩ := trodAll_cons k0
  obtain ⟨v2, vs2, d2, ds2, q2, r2, rfl, rfl, rfl, h2, k2⟩ := trodAll_cons k1
  obtain ⟨v3, vs3, d3, ds3, q3, r3, rfl, rfl, rfl, h3, k3⟩ := trodAll_cons k2
  obtain ⟨v4, vs4, d4, ds4, q4, r4, rfl, rfl, rfl, h4, k4⟩ := trodAll_cons k3
  obtain ⟨rfl, rfl, rfl⟩ := trodAll_nil k4
  exact ⟨v0, v1, v2, v3, v4, d0, d1, d2, d3, d4, q0, q1, q2, q3, q4, by cases args; simp_all, rfl, by simp, h0, h1, h2, h3, h4⟩
theorem trodAll_mk5 {t0 t1 t2 t3 t4 : TypeId} {v0 v1 v2 v3 v4 : Value} {d0 d1 d2 d3 d4 : DataW H} {q0 q1 q2 q3 q4 : List MemPlace} (h0 : DataW.Trod enc P w base spare held t0 v0 d0 q0) (h1 : DataW.Trod enc P w base spare held t1 v1 d1 q1) (h2 : DataW.Trod enc P w base spare held t2 v2 d2 q2) (h3 : DataW.Trod enc P w base spare held t3 v3 d3 q3) (h4 : DataW.Trod enc P w base spare held t4 v4 d4 q4) :
    DataW.TrodAll enc P w base spare held [t0, t1, t2, t3, t4] [v0, v1, v2, v3, v4] [d0, d1, d2, d3, d4] (q0 ++ (q1 ++ (q2 ++ (q3 ++ q4)))) := ⟨q0, _, h0, trodAll_mk4 h1 h2 h3 h4, rfl⟩
theorem trodAll_six {t0 t1 t2 t3 t4 t5 : TypeId} {args : Array Value} {ds : List (DataW H)} {ps : List MemPlace} (h : DataW.TrodAll enc P w base spare held [t0, t1, t2, t3, t4, t5] args.toList ds ps) :
    ∃ v0 v1 v2 v3 v4 v5 d0 d1 d2 d3 d4 d5 q0 q1 q2 q3 q4 q5, args = #[v0, v1, v2, v3, v4, v5] ∧ ds = [d0, d1, d2, d3, d4, d5] ∧ ps = q0 ++ (q1 ++ (q2 ++ (q3 ++ (q4 ++ q5)))) ∧ DataW.Trod enc P w base spare held t0 v0 d0 q0 ∧ DataW.Trod enc P w base spare held t1 v1 d1 q1 ∧ DataW.Trod enc P w base spare held t2 v2 d2 q2 ∧ DataW.Trod enc P w base spare held t3 v3 d3 q3 ∧ DataW.Trod enc P w base spare held t4 v4 d4 q4 ∧ DataW.Trod enc P w base spare held t5 v5 d5 q5 := by
  obtain ⟨v0, vs0, d0, ds0, q0, r0, hargs, rfl, rfl, h0, k0⟩ := trodAll_cons h
  obtain ⟨v1, vs1, d1, ds1, q1, r1, rfl, rfl, rfl, h1, k1⟩ := trodAll_cons k0
  obtain ⟨v2, vs2, d2, ds2, q2, r2, rfl, rfl, rfl, h2, k2⟩ := trodAll_cons k1
  obtain ⟨v3, vs3, d3, ds3, q3, r3, rfl, rfl, rfl, h3, k3⟩ := trodAll_cons k2
  obtain ⟨v4, vs4, d4, ds4, q4, r4, rfl, rfl, rfl, h4, k4⟩ := trodAll_cons k3
  obtain ⟨v5, vs5, d5, ds5, q5, r5, rfl, rfl, rfl, h5, k5⟩ := trodAll_cons k4
  obtain ⟨rfl, rfl, rfl⟩ := trodAll_nil k5
  exact ⟨v0, v1, v2, v3, v4, v5, d0, d1, d2, d3, d4, d5, q0, q1, q2, q3, q4, q5, by cases args; simp_all, rfl, by simp, h0, h1, h2, h3, h4, h5⟩
theorem trodAll_mk6 {t0 t1 t2 t3 t4 t5 : TypeId} {v0 v1 v2 v3 v4 v5 : Value} {d0 d1 d2 d3 d4 d5 : DataW H} {q0 q1 q2 q3 q4 q5 : List MemPlace} (h0 : DataW.Trod enc P w base spare held t0 v0 d0 q0) (h1 : DataW.Trod enc P w base spare held t1 v1 d1 q1) (h2 : DataW.Trod enc P w base spare held t2 v2 d2 q2) (h3 : DataW.Trod enc P w base spare held t3 v3 d3 q3) (h4 : DataW.Trod enc P w base spare held t4 v4 d4 q4) (h5 : DataW.Trod enc P w base spare held t5 v5 d5 q5) :
    DataW.TrodAll enc P w base spare held [t0, t1, t2, t3, t4, t5] [v0, v1, v2, v3, v4, v5] [d0, d1, d2, d3, d4, d5] (q0 ++ (q1 ++ (q2 ++ (q3 ++ (q4 ++ q5))))) := ⟨q0, _, h0, ⟨q1, _, h1, trodAll_mk4 h2 h3 h4 h5, rfl⟩, rfl⟩
theorem trodAll_seven {t0 t1 t2 t3 t4 t5 t6 : TypeId} {args : Array Value} {ds : List (DataW H)} {ps : List MemPlace} (h : DataW.TrodAll enc P w base spare held [t0, t1, t2, t3, t4, t5, t6] args.toList ds ps) :
    ∃ v0 v1 v2 v3 v4 v5 v6 d0 d1 d2 d3 d4 d5 d6 q0 q1 q2 q3 q4 q5 q6, args = #[v0, v1, v2, v3, v4, v5, v6] ∧ ds = [d0, d1, d2, d3, d4, d5, d6] ∧ ps = q0 ++ (q1 ++ (q2 ++ (q3 ++ (q4 ++ (q5 ++ q6))))) ∧ DataW.Trod enc P w base spare held t0 v0 d0 q0 ∧ DataW.Trod enc P w base spare held t1 v1 d1 q1 ∧ DataW.Trod enc P w base spare held t2 v2 d2 q2 ∧ DataW.Trod enc P w base spare held t3 v3 d3 q3 ∧ DataW.Trod enc P w base spare held t4 v4 d4 q4 ∧ DataW.Trod enc P w base spare held t5 v5 d5 q5 ∧ DataW.Trod enc P w base spare held t6 v6 d6 q6 := by
  obtain ⟨v0, vs0, d0, ds0, q0, r0, hargs, rfl, rfl, h0, k0⟩ := trodAll_cons h
  obtain ⟨v1, vs1, d1, ds1, q1, r1, rfl, rfl, rfl, h1, k1⟩ := trodAll_cons k0
  obtain ⟨v2, vs2, d2, ds2, q2, r2, rfl, rfl, rfl, h2, k2⟩ := trodAll_cons k1
  obtain ⟨v3, vs3, d3, ds3, q3, r3, rfl, rfl, rfl, h3, k3⟩ := trodAll_cons k2
  obtain ⟨v4, vs4, d4, ds4, q4, r4, rfl, rfl, rfl, h4, k4⟩ := trodAll_cons k3
  obtain ⟨v5, vs5, d5, ds5, q5, r5, rfl, rfl, rfl, h5, k5⟩ := trodAll_cons k4
  obtain ⟨v6, vs6, d6, ds6, q6, r6, rfl, rfl, rfl, h6, k6⟩ := trodAll_cons k5
  obtain ⟨rfl, rfl, rfl⟩ := trodAll_nil k6
  exact ⟨v0, v1, v2, v3, v4, v5, v6, d0, d1, d2, d3, d4, d5, d6, q0, q1, q2, q3, q4, q5, q6, by cases args; simp_all, rfl, by simp, h0, h1, h2, h3, h4, h5, h6⟩
theorem trodAll_mk7 {t0 t1 t2 t3 t4 t5 t6 : TypeId} {v0 v1 v2 v3 v4 v5 v6 : Value} {d0 d1 d2 d3 d4 d5 d6 : DataW H} {q0 q1 q2 q3 q4 q5 q6 : List MemPlace} (h0 : DataW.Trod enc P w base spare held t0 v0 d0 q0) (h1 : DataW.Trod enc P w base spare held t1 v1 d1 q1) (h2 : DataW.Trod enc P w base spare held t2 v2 d2 q2) (h3 : DataW.Trod enc P w base spare held t3 v3 d3 q3) (h4 : DataW.Trod enc P w base spare held t4 v4 d4 q4) (h5 : DataW.Trod enc P w base spare held t5 v5 d5 q5) (h6 : DataW.Trod enc P w base spare held t6 v6 d6 q6) :
    DataW.TrodAll enc P w base spare held [t0, t1, t2, t3, t4, t5, t6] [v0, v1, v2, v3, v4, v5, v6] [d0, d1, d2, d3, d4, d5, d6] (q0 ++ (q1 ++ (q2 ++ (q3 ++ (q4 ++ (q5 ++ q6)))))) := ⟨q0, _, h0, ⟨q1, _, h1, ⟨q2, _, h2, trodAll_mk4 h3 h4 h5 h6, rfl⟩, rfl⟩, rfl⟩
end
end Go.Proofs.Ytnocdecimcpkfaa

namespace Go.Proofs.Ytnocdecimcpkfaa
open Go.RowKit Go.Sort

section
variable {P : Program} {ops : Array Oper} {md : Region.Mode} {Q : Exit → Act → World → Prop}

/-- run: an operation that yields one value in every world of the class; alt: one that may come up next, and what comes behind it, or another one; stop: no other one; done: the region's end. -/
inductive Plan where
  | run (i : Nat) (rest : Plan)
  | alt (h : Nat) (after other : Plan)
  | stop
  | done
/-- What is to be shown of a plan. -/
def flow (P : Program) (ops : Array Oper) (Q : Exit → Act → World → Prop) : Plan → (World → Prop) → Act → World → Prop
  | .run i rest, C, a, w => ∃ o, ops[i]? = some o ∧ if Region.wanted o (yielded ops a.tmps) then rOper P o a C (fun a' => flow P ops Q rest C a' w) else flow P ops Q rest C (a.put o.dst undef) w
  | .alt h after other, C, a, w => (∃ o, ops[h]? = some o ∧ ∀ w', Ext w w' → if Region.wanted o (yielded ops a.tmps) then
        o.wp P a w' (fun a' w2 => ∃ C' : World → Prop, (∀ x, C' x → C x) ∧ (∀ x y, Ext x y → C' x → C' y) ∧ C' w2 ∧ flow P ops Q after C' a' w2) Q
      else ∃ C' : World → Prop, (∀ x, C' x → C x) ∧ (∀ x y, Ext x y → C' x → C' y) ∧ C' w' ∧ flow P ops Q after C' (a.put o.dst undef) w') ∧ flow P ops Q other C a w
  | .stop, _, _, _ => True
  | .done, _, a, w => ∀ w', Ext w w' → Q .normal a w'
theorem flow_run {i : Nat} {rest : Plan} {C : World → Prop} {a : Act} {w : World} {o : Oper} (ho : ops[i]? = some o)
    (h : ∀ K : Act → Prop, (∀ a, flow P ops Q rest C a w → K a) → if Region.wanted o (yielded ops a.tmps) then rOper P o a C K else K (a.put o.dst undef)) : flow P ops Q (.run i rest) C a w :=
  ⟨o, ho, h _ (fun _ h => h)⟩
theorem flow_alt {k : Nat} {after other : Plan} {C : World → Prop} {a : Act} {w : World} {o : Oper} (ho : ops[k]? = some o) (hgd : Region.wanted o (yielded ops a.tmps) = true) (h2 : flow P ops Q other C a w)
    (h : ∀ w', Ext w w' → o.wp P a w' (fun a' w2 => ∃ C' : World → Prop, (∀ x, C' x → C x) ∧ (∀ x y, Ext x y → C' x → C' y) ∧ C' w2 ∧ flow P ops Q after C' a' w2) Q) : flow P ops Q (.alt k after other) C a w :=
  ⟨⟨o, ho, fun w' hw' => by rw [if_pos hgd]; exact h w' hw'⟩, h2⟩
/-- As flow_alt, where the class stays. -/
theorem flow_keep {k : Nat} {after other : Plan} {C : World → Prop} {a : Act} {w : World} {o : Oper} (hC : ∀ x y, Ext x y → C x → C y) (ho : ops[k]? = some o) (hgd : Region.wanted o (yielded ops a.tmps) = true) (h2 : flow P ops Q other C a w)
    (h : ∀ w', Ext w w' → o.wp P a w' (fun a' w2 => C w2 ∧ flow P ops Q after C a' w2) Q) : flow P ops Q (.alt k after other) C a w :=
  flow_alt ho hgd h2 fun w' hw' => Oper.wp_mono (fun _ _ hk => ⟨C, fun _ h => h, hC, hk.1, hk.2⟩) (h w' hw')

def Plan.runs : Plan → List Nat
  | .run i r => i :: r.runs
  | _ => []
def Plan.drop (i : Nat) : Plan → Plan
  | .run j r => if j = i then r else .run j (r.drop i)
  | p => p
def Plan.goto (h : Nat) : Plan → Plan
  | .run j r => .run j (r.goto h)
  | .alt k a o => if k = h then a else o.goto h
  | p => p
/-- The check: what is run is ready, and apart from all that does not wait for it; whatever else is ready is among those that may come up. -/
def planB (md : Region.Mode) (ops : Array Oper) : List Nat → Plan → Array Bool → Bool
  | seen, .run i r, l => seen.isEmpty && (Region.ready md ops l).contains i && Region.free md ops l i && planB md ops [] r (l.setIfInBounds i true)
  | seen, .alt h a o, l => (Region.ready md ops l).contains h && planB md ops [] a (l.setIfInBounds h true) && planB md ops (h :: seen) o l
  | seen, .stop, l => !seen.isEmpty && (Region.ready md ops l).all seen.contains
  | seen, .done, l => seen.isEmpty && (Region.ready md ops l).isEmpty
theorem free_mono {l : Array Bool} {i j : Nat} (h : Region.free md ops l j = true) : Region.free md ops (l.setIfInBounds i true) j = true := by
  unfold Region.free at *
  cases ho : ops[j]? with
  | none => rw [ho] at h; cases h
  | some oj =>
    rw [ho] at h
    simp only [List.all_eq_true, List.mem_range, Bool.or_eq_true, beq_iff_eq] at h ⊢
    intro k hk
    rcases h k hk with (h1 | h1) | h1
    · exact .inl (.inl h1)
    · by_cases hik : i = k
      · subst hik
        refine .inl (.inr ?_)
        rcases Nat.lt_or_ge i l.size with h' | h'
        · simp [h']
        · simp [h']
      · exact .inl (.inr (by rw [getD_set_ne true hik]; exact h1))
    · exact .inr h1
/-- One that is ready beside another one that may go first: apart from it. -/
theorem apart_of {l : Array Bool} {i j : Nat} {oi oj : Oper} (hj : ops[j]? = some oj) (hf : Region.free md ops l j = true) (hji : j ≠ i) (hun : l.getD j true = false) (hi : ops[i]? = some oi) (hr : i ∈ Region.ready md ops l) : oj.apart ops oi = true := by
  obtain ⟨h0, o, ho, hall⟩ := mem_ready.1 hr
  have : o = oi := Option.some.inj (ho.symm.trans hi)
  subst this
  refine Region.free_spec hj hf i o hi (Ne.symm hji) h0 fun e he hb heq => ?_
  have h1 := hall e he hb
  rw [heq, getD_both hun] at h1
  cases h1
/-- An operation apart from one that yields: whether that one's value is there already makes no difference. -/
theorem wpOp_putR {C : World → Prop} {j : Nat} {oi oj : Oper} {v : Value} (hj : ops[j]? = some oj) (hap : oi.apart ops oj = true) (hsi : ∀ cs b, oi.op ≠ .select cs b) (hsj : ∀ cs b, oj.op ≠ .select cs b)
    (hQ : ∀ c x v a w, Q (.panic c) (Act.put a x v) w → Q (.panic c) a w) {K : Act → World → Prop} {a : Act} {w : World} (hy : rYields P ops C oi v a) (h : wpOp P ops Q j K (a.put oi.dst v) w) :
    wpOp P ops Q j (fun a' w' => rYields P ops C oi v a' ∧ K (a'.put oi.dst v) w') a w := by
  obtain ⟨g1, g2, g3⟩ := Oper.apart_spec hap
  have e1 := execOp_put (ops := ops) oj hsj a oi.dst v g1
  have e2 := wanted_put oj a oi.dst v g1
  have kp : ∀ b u, rYields P ops C oi v b → rYields P ops C oi v (b.put oj.dst u) := fun b u hb => hb.same (execOp_put (ops := ops) oi hsi b oj.dst u g3) (wanted_put oi b oj.dst u g3)
  have kd : ∀ d, rYields P ops C oi v { a with defers := d :: a.defers } := fun d => hy.same rfl rfl
  have cm : ∀ (b : Act) u, (b.put oi.dst v).put oj.dst u = (b.put oj.dst u).put oi.dst v := fun b u => Act.put_comm b v u g2
  unfold wpOp at h ⊢
  simp only [hj, e2] at h ⊢
  cases hw : Region.wanted oj (yielded ops a.tmps) with
  | false =>
    simp only [hw, Bool.false_eq_true, if_false] at h ⊢
    exact ⟨kp a _ hy, by rw [← cm]; exact h⟩
  | true =>
    simp only [hw, if_true] at h ⊢
    rcases h with h | ⟨h, hl⟩
    · left
      unfold Oper.wp at h ⊢
      rw [e1] at h
      generalize (execOp a.eval oj).run P w = r at h ⊢
      cases r with
      | halt x w' => cases x <;> first | exact hQ _ _ _ _ _ h | exact h
      | ok n w' =>
        cases n <;> simp only [Oper.upon] at h ⊢
        case value u => exact ⟨kp a u hy, by rw [← cm]; exact h⟩
        case skip => exact ⟨kp a _ hy, by rw [← cm]; exact h⟩
        case defer d => exact ⟨kp _ _ (kd d), by rw [← cm, ← Act.put_defers]; exact h⟩
        case enter f args =>
          refine Calls.mono h fun e w2 he => ?_
          cases e with
          | returned u => exact ⟨kp a u hy, by rw [← cm]; exact he⟩
          | panicked c => exact hQ _ _ _ _ _ he
          | outgrown => exact he
        case row row args => exact Rows.mono h fun u w2 he => ⟨kp a u hy, by rw [← cm]; exact he⟩
    · right
      exact ⟨by unfold Oper.asks at h ⊢; rw [e1] at h; exact h, hl⟩
theorem rYields.sub {C C' : World → Prop} {o : Oper} {v : Value} {a : Act} (h : rYields P ops C o v a) (hs : ∀ x, C' x → C x) : rYields P ops C' o v a :=
  h.imp (fun ⟨h1, h2⟩ => ⟨h1, fun w hw => h2 w (hs w hw)⟩) id
theorem flow_of_yields {i : Nat} {o : Oper} {rest : Plan} {C : World → Prop} {v : Value} {a : Act} {w : World} (ho : ops[i]? = some o) (hy : rYields P ops C o v a) (h : flow P ops Q rest C (a.put o.dst v) w) : flow P ops Q (.run i rest) C a w := by
  refine ⟨o, ho, ?_⟩
  rcases hy with ⟨h1, h2⟩ | ⟨h1, rfl⟩
  · rw [if_pos h1]; exact ⟨v, h2, h⟩
  · rw [if_neg (by rw [h1]; simp)]; exact h
theorem yields_of_flow {i : Nat} {rest : Plan} {C : World → Prop} {a : Act} {w : World} (h : flow P ops Q (.run i rest) C a w) : ∃ o v, ops[i]? = some o ∧ rYields P ops C o v a ∧ flow P ops Q rest C (a.put o.dst v) w := by
  obtain ⟨o, ho, h⟩ := h
  cases hw : Region.wanted o (yielded ops a.tmps) with
  | true =>
    rw [if_pos hw] at h
    obtain ⟨v, h1, h2⟩ := h
    exact ⟨o, v, ho, .inl ⟨hw, h1⟩, h2⟩
  | false =>
    rw [if_neg (by rw [hw]; simp)] at h
    exact ⟨o, undef, ho, .inr ⟨hw, rfl⟩, h⟩
/-- One of those that yield may be taken first. -/
theorem flow_drop (hsel : Region.noSelect ops = true) {C : World → Prop} {i : Nat} {w : World} : ∀ (pl : Plan) (l : Array Bool) (a : Act), planB md ops [] pl l = true → i ∈ Region.ready md ops l → i ∈ pl.runs → flow P ops Q pl C a w →
    ∃ o v, ops[i]? = some o ∧ rYields P ops C o v a ∧ flow P ops Q (pl.drop i) C (a.put o.dst v) w ∧ planB md ops [] (pl.drop i) (l.setIfInBounds i true) = true
  | .run j r, l, a, hB, hr, hm, hf => by
    simp only [planB, Bool.and_eq_true, List.isEmpty_nil, true_and] at hB
    obtain ⟨⟨hjr, hfr⟩, hB⟩ := hB
    have hjr' : j ∈ Region.ready md ops l := by simpa using hjr
    obtain ⟨oj, u, hoj, hyj, hf⟩ := yields_of_flow hf
    by_cases hji : j = i
    · subst hji
      simp only [Plan.drop, if_true]
      exact ⟨oj, u, hoj, hyj, hf, hB⟩
    · have hm' : i ∈ r.runs := by
        simp only [Plan.runs, List.mem_cons] at hm
        rcases hm with hm | hm
        · exact absurd hm.symm hji
        · exact hm
      obtain ⟨oi, v, hoi, hyi, hfi, hBi⟩ := flow_drop hsel r _ _ hB (ready_mono hr (Ne.symm hji)) hm' hf
      obtain ⟨g1, g2, g3⟩ := Oper.apart_spec (apart_of hoj hfr hji (mem_ready.1 hjr').1 hoi hr)
      have s := fun k o (ho : ops[k]? = some o) cs b => Region.noSelect_spec hsel k o cs b ho
      have hyi' : rYields P ops C oi v a := hyi.same (execOp_put (ops := ops) oi (s i oi hoi) a oj.dst u g1).symm (wanted_put oi a oj.dst u g1).symm
      have hyj' : rYields P ops C oj u (a.put oi.dst v) := hyj.same (execOp_put (ops := ops) oj (s j oj hoj) a oi.dst v g3) (wanted_put oj a oi.dst v g3)
      refine ⟨oi, v, hoi, hyi', ?_, ?_⟩
      · simp only [Plan.drop, if_neg hji]
        refine flow_of_yields hoj hyj' ?_
        rw [← Act.put_comm a u v g2]
        exact hfi
      · simp only [Plan.drop, if_neg hji, planB, Bool.and_eq_true, List.isEmpty_nil, true_and]
        refine ⟨⟨by simpa using ready_mono hjr' hji, free_mono hfr⟩, ?_⟩
        rw [Array.setIfInBounds_comm _ _ (Ne.symm hji)]
        exact hBi
  | .alt _ _ _, _, _, _, _, hm, _ => by cases hm
  | .stop, _, _, _, _, hm, _ => by cases hm
  | .done, _, _, _, _, hm, _ => by cases hm
/-- One of the others may be taken ahead of those that yield. -/
theorem flow_goto (hsel : Region.noSelect ops = true) (hQ : ∀ c x v a w, Q (.panic c) (Act.put a x v) w → Q (.panic c) a w) {C : World → Prop} {i : Nat} {w0 w : World} (hw : Ext w0 w) : ∀ (pl : Plan) (seen : List Nat) (l : Array Bool) (a : Act), planB md ops seen pl l = true → i ∈ Region.ready md ops l →
    i ∉ pl.runs → i ∉ seen → flow P ops Q pl C a w0 →
    wpOp P ops Q i (fun a' w' => ∃ C' : World → Prop, (∀ x, C' x → C x) ∧ (∀ x y, Ext x y → C' x → C' y) ∧ C' w' ∧ flow P ops Q (pl.goto i) C' a' w') a w ∧ planB md ops [] (pl.goto i) (l.setIfInBounds i true) = true
  | .run j r, seen, l, a, hB, hr, hm, _, hf => by
    simp only [planB, Bool.and_eq_true] at hB
    obtain ⟨⟨⟨_, hjr⟩, hfr⟩, hB⟩ := hB
    have hjr' : j ∈ Region.ready md ops l := by simpa using hjr
    have hji : j ≠ i := fun e => hm (by rw [e]; exact List.mem_cons_self)
    obtain ⟨oj, u, hoj, hyj, hf⟩ := yields_of_flow hf
    obtain ⟨h1, h2⟩ := flow_goto hsel hQ hw r [] _ _ hB (ready_mono hr (Ne.symm hji)) (fun h => hm (List.mem_cons_of_mem _ h)) (by simp) hf
    obtain ⟨_, oi, hoi, _⟩ := mem_ready.1 hr
    have s := fun k o (ho : ops[k]? = some o) cs b => Region.noSelect_spec hsel k o cs b ho
    have hap := apart_of hoj hfr hji (mem_ready.1 hjr').1 hoi hr
    refine ⟨wpOp_mono (fun a' w' h => ?_) (wpOp_putR hoi hap (s j oj hoj) (s i oi hoi) hQ hyj h1), ?_⟩
    · obtain ⟨hy, C', hs, hc, hC, hf⟩ := h
      exact ⟨C', hs, hc, hC, flow_of_yields hoj (hy.sub hs) hf⟩
    · simp only [Plan.goto, planB, Bool.and_eq_true, List.isEmpty_nil, true_and]
      refine ⟨⟨by simpa using ready_mono hjr' hji, free_mono hfr⟩, ?_⟩
      rw [Array.setIfInBounds_comm _ _ (Ne.symm hji)]
      exact h2
  | .alt k a2 o, seen, l, a, hB, hr, hm, hs, hf => by
    simp only [planB, Bool.and_eq_true] at hB
    obtain ⟨⟨_, hB1⟩, hB2⟩ := hB
    obtain ⟨⟨ok, hok, h1⟩, h2⟩ := hf
    by_cases hki : k = i
    · subst hki
      simp only [Plan.goto, if_true]
      refine ⟨?_, hB1⟩
      have := h1 w hw
      unfold wpOp
      simp only [hok]
      split
      · rename_i hwt; rw [if_pos hwt] at this; exact .inl this
      · rename_i hwt; rw [if_neg hwt] at this; exact this
    · simp only [Plan.goto, if_neg hki]
      have hs' : i ∉ k :: seen := fun h => by
        rcases List.mem_cons.1 h with h | h
        · exact hki h.symm
        · exact hs h
      cases o with
      | run j r => simp [planB] at hB2
      | alt k2 a3 o2 => exact flow_goto hsel hQ hw (.alt k2 a3 o2) _ _ _ hB2 hr (by simp [Plan.runs]) hs' h2
      | stop => exact flow_goto hsel hQ hw .stop _ _ _ hB2 hr (by simp [Plan.runs]) hs' h2
      | done => exact flow_goto hsel hQ hw .done _ _ _ hB2 hr (by simp [Plan.runs]) hs' h2
  | .stop, seen, l, a, hB, hr, _, hs, _ => by
    simp only [planB, Bool.and_eq_true] at hB
    have := List.all_eq_true.1 hB.2 i hr
    exact absurd (by simpa using this) hs
  | .done, seen, l, a, hB, hr, _, _, _ => by
    simp only [planB, Bool.and_eq_true, List.isEmpty_iff] at hB
    rw [hB.2] at hr; cases hr

/-- How many are not done. -/
def undone (n : Nat) (l : Array Bool) : Nat := ((List.range n).filter fun i => !l.getD i true).length
theorem filter_less {p q : Nat → Bool} {x : Nat} : ∀ {l : List Nat}, (∀ y, q y = true → p y = true) → x ∈ l → p x = true → q x = false → (l.filter q).length < (l.filter p).length
  | [], _, hx, _, _ => by cases hx
  | y :: l, h, hx, hp, hq => by
    have le : ∀ l : List Nat, (l.filter q).length ≤ (l.filter p).length := fun l => by
      induction l with
      | nil => simp
      | cons z l ih =>
        cases hz : q z with
        | true => rw [List.filter_cons_of_pos hz, List.filter_cons_of_pos (h z hz)]; simpa using ih
        | false =>
          rw [List.filter_cons_of_neg (by rw [hz]; simp)]
          cases hz2 : p z with
          | true => rw [List.filter_cons_of_pos hz2, List.length_cons]; omega
          | false => rw [List.filter_cons_of_neg (by rw [hz2]; simp)]; exact ih
    rcases List.mem_cons.1 hx with rfl | hx
    · rw [List.filter_cons_of_pos hp, List.filter_cons_of_neg (by rw [hq]; simp), List.length_cons]
      have := le l; omega
    · have ih := filter_less h hx hp hq
      cases hz : q y with
      | true => rw [List.filter_cons_of_pos hz, List.filter_cons_of_pos (h y hz)]; simpa using ih
      | false =>
        rw [List.filter_cons_of_neg (by rw [hz]; simp)]
        cases hz2 : p y with
        | true => rw [List.filter_cons_of_pos hz2, List.length_cons]; omega
        | false => rw [List.filter_cons_of_neg (by rw [hz2]; simp)]; exact ih
theorem undone_set {l : Array Bool} {i : Nat} (hi : i < ops.size) (hs : l.size = ops.size) (hu : l.getD i true = false) : undone ops.size (l.setIfInBounds i true) < undone ops.size l := by
  refine filter_less (x := i) (fun y hy => ?_) (List.mem_range.2 hi) (by rw [hu]; rfl) (by simp [hs, hi])
  by_cases hiy : i = y
  · subst hiy; rw [hu]; rfl
  · rw [getD_set_ne true hiy] at hy; exact hy
theorem flow_end {C : World → Prop} {pl : Plan} {l : Array Bool} {a : Act} {w0 w : World} (hB : planB md ops [] pl l = true) (hr : Region.ready md ops l = []) (hw : Ext w0 w) (hf : flow P ops Q pl C a w0) : Q .normal a w := by
  cases pl with
  | run i r => simp [planB, hr] at hB
  | alt h a2 o => simp [planB, hr] at hB
  | stop => simp [planB] at hB
  | done => exact hf w hw
theorem flow_sound (hsel : Region.noSelect ops = true) (hQ : ∀ c x v a w, Q (.panic c) (Act.put a x v) w → Q (.panic c) a w) : ∀ (f : Nat) (pl : Plan) (C : World → Prop) (l : Array Bool) (a : Act) (w0 w : World),
    planB md ops [] pl l = true → l.size = ops.size → undone ops.size l ≤ f → (∀ x y, Ext x y → C x → C y) → C w → Ext w0 w → flow P ops Q pl C a w0 → wpAny P md ops Q f l a w := by
  intro f
  induction f with
  | zero =>
    intro pl C l a w0 w hB hs hu _ _ hw hf
    have hr : Region.ready md ops l = [] := by
      cases hr : Region.ready md ops l with
      | nil => rfl
      | cons i rs =>
        have hi : i ∈ Region.ready md ops l := by rw [hr]; exact List.mem_cons_self
        obtain ⟨h0, o, ho, _⟩ := mem_ready.1 hi
        have := undone_set (ops := ops) (Array.getElem?_eq_some_iff.1 ho).1 hs h0
        omega
    exact ⟨hr, flow_end hB hr hw hf⟩
  | succ f ih =>
    intro pl C l a w0 w hB hs hu hc hC hw hf
    refine ⟨fun hr => flow_end hB hr hw hf, fun i hi => ?_⟩
    obtain ⟨h0, o, ho, _⟩ := mem_ready.1 hi
    have hlt := undone_set (ops := ops) (Array.getElem?_eq_some_iff.1 ho).1 hs h0
    by_cases hm : i ∈ pl.runs
    · obtain ⟨oi, v, hoi, hy, hf2, hB2⟩ := flow_drop hsel pl l a hB hi hm hf
      exact wpOp_of_yields hoi hC hy fun w' hw' => ih _ C _ _ w0 w' hB2 (by simpa using hs) (by omega) hc (hc _ _ hw' hC) (Ext.trans hw hw') hf2
    · obtain ⟨h1, hB2⟩ := flow_goto hsel hQ hw pl [] l a hB hi hm (by simp) hf
      refine wpOp_mono (fun a' w' h => ?_) h1
      obtain ⟨C', _, hc', hC', hf2⟩ := h
      exact ih _ C' _ _ w' w' hB2 (by simpa using hs) (by omega) hc' hC' (Below.refl _ _) hf2
theorem wp_region_flow {id : Nat} {a : Act} {w : World} {l : List Oper} (pl : Plan) (hm : P.follows .mixedOrders = true) (hB : (Region.noSelect l.toArray && planB .any l.toArray [] pl (Array.replicate l.toArray.size false)) = true)
    (hQ : ∀ c x v a w, Q (.panic c) (Act.put a x v) w → Q (.panic c) a w) {C : World → Prop} (hC : ∀ w', Below w.heap.size w w' → C w') (hc : ∀ w', C w' → Below w.heap.size w w') (h : flow P l.toArray Q pl C a w) : (Code.region id l.toArray true).wp P Q a w := by
  simp only [Bool.and_eq_true] at hB
  refine wp_region_any hm ?_
  have hx : Ext w { w with drawn := w.drawn + 1 } := ⟨rfl, rfl, rfl, Nat.le_refl _, fun _ _ => rfl⟩
  exact flow_sound hB.1 hQ _ pl C _ a w _ hB.2 (by simp) (by
    have := List.length_filter_le (fun i => !(Array.replicate l.toArray.size false).getD i true) (List.range l.toArray.size)
    rw [List.length_range] at this; exact this) (fun x y hxy hx => hC _ (Ext.trans (a := w) (hc _ hx) hxy)) (hC _ hx) hx h
end
end Go.Proofs.Ytnocdecimcpkfaa
