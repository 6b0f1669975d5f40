/- Put together: WalC, WalD. -/
import Derived.Test.YtnocdecimcpkfaaRows
import Derived.Test.YtnocdecimcpkfaaPut18
import Derived.Test.YtnocdecimcpkfaaPut19
import Derived.Shelf.SlicesQ.IndexFunc
import Derived.Shelf.SlicesE.Clone
import Derived.Laws.AppendOwn
import Derived.WalkKit
import Derived.WalkSpells
import Derived.WalkLawsBesides
import Derived.Deep.QuietTactic
import Derived.BigQuiet
import Derived.Lib.Hide
import Derived.Handy
import Derived.OwnWalk
import Derived.LoopN
import Derived.RegionTactic
import Derived.BigCall
import Derived.Test.YtnocdecimcpkfaaPut2
import Derived.Laws.Externs
namespace Go.Proofs.Ytnocdecimcpkfaa
open Go.RowKit Go.Sort Go.Lib Go.Shelf

/-- A row of the call's own. -/
def WRow (w : World) (B : Nat) (v : Value) (L : List Wl) : Prop := w.ownsRow B 35 5 v L.length (L.flatMap cW)
/-- A slice's address lies in no other variable's midst. -/
def Flat (a : Option Addr) : Prop := ∀ ad, a = some ad → ad.spot = none
theorem WRow.row {w : World} {B : Nat} {v : Value} {L : List Wl} (h : WRow w B v L) : ∃ a cap, v = .slice a L.length cap ∧ RowAt cW 5 w a L ∧ Flat a := by
  obtain ⟨a, cap, h1, h2⟩ := rowAt_of_owns cW_len h
  refine ⟨a, cap, h1, h2, fun ad ha => ?_⟩
  rcases h.2 with ⟨h0, _⟩ | ⟨g, cap', cur, h0, _⟩
  · rw [h1] at h0; simp at h0; rw [h0.1] at ha; cases ha
  · rw [h1] at h0; simp at h0; rw [h0.1] at ha; cases ha; rfl
theorem WRow.nil0 (w : World) (B : Nat) : WRow w B (.slice none 0 0) [] := World.ownsRow_nil _ _ _ _
theorem WRow.kept {w w' : World} {B : Nat} {v : Value} {L : List Wl} {row : Option Nat} (h : WRow w B v L) (hg : w.grownBy w' row) (hne : v.ownBlock = none ∨ v.ownBlock ≠ row) : WRow w' B v L := World.ownsRow.kept h hg hne
theorem WRow.lt {w : World} {B : Nat} {v : Value} {L : List Wl} (h : WRow w B v L) : ∀ k, v.ownBlock = some k → B ≤ k ∧ k < w.heap.size := World.ownsRow.lt h
theorem WRow.base {w : World} {B B' : Nat} {v : Value} {L : List Wl} (h : WRow w B v L) (hb : B' ≤ B) : WRow w B' v L := by
  refine ⟨h.1, ?_⟩
  rcases h.2 with h | ⟨g, cap, cur, h0, h1, h2⟩
  · exact .inl h
  · exact .inr ⟨g, cap, cur, h0, Nat.le_trans hb h1, h2⟩
theorem WRow.ext {w w' : World} {B n : Nat} {v : Value} {L : List Wl} (h : WRow w B v L) (hb : Below n w w') (hn : n = w.heap.size) : WRow w' B v L := by
  refine ⟨h.1, ?_⟩
  rcases h.2 with h | ⟨g, cap, cur, h0, h1, h2, h3⟩
  · exact .inl h
  · refine .inr ⟨g, cap, cur, h0, h1, ?_, h3⟩
    have hl : g < w.heap.size := (Array.getElem?_eq_some_iff.1 h2).1
    rw [hb.block g (by omega)]; exact h2
/-- Its whole block. -/
theorem WRow.box {w : World} {B : Nat} {v : Value} {L : List Wl} (h : WRow w B v L) : (v = .slice none 0 0 ∧ L = []) ∨ ∃ g cap tl, v = .slice (some ⟨g, 0, none⟩) L.length cap ∧ B ≤ g ∧ Box w g (L.flatMap cW ++ tl) 35 ∧ L.length ≤ cap ∧ cap ≤ maxLen ∧ tl.length = (cap - L.length) * 5 := by
  rcases h.2 with ⟨h0, h1⟩ | ⟨g, cap, cur, h0, h1, h2, h3, h4, h5, h6⟩
  · exact .inl ⟨h0, List.eq_nil_of_length_eq_zero h1⟩
  · refine .inr ⟨g, cap, cur.toList.drop (L.length * 5), h0, h1, ?_, h3, h4, ?_⟩
    · rw [← h6, List.take_append_drop]; exact h2
    · rw [List.length_drop, Array.length_toList, h5]; omega
theorem WRow.of_box {w : World} {B g cap : Nat} {L : List Wl} {tl : List Value} (hB : B ≤ g) (h : Box w g (L.flatMap cW ++ tl) 35) (h1 : L.length ≤ cap) (h2 : cap ≤ maxLen) (h3 : tl.length = (cap - L.length) * 5) : WRow w B (.slice (some ⟨g, 0, none⟩) L.length cap) L := by
  have hl := flatMap_len cW_len L
  refine ⟨hl, .inr ⟨g, cap, (L.flatMap cW ++ tl).toArray, rfl, hB, h, h1, h2, ?_, ?_⟩⟩
  · simp only [List.size_toArray, List.length_append, hl, h3]; omega
  · simp only [← hl]; exact List.take_left
theorem flatK_list {α : Type} [Inhabited α] {c : α → List Value} {k : Nat} (hc : ∀ x, (c x).length = k) (L : List α) (hk : 0 < k) : (flatK c k L.toArray).toList = L.flatMap c := by
  apply List.ext_getElem?
  intro t
  by_cases ht : t < L.length * k
  · have hj : t / k < L.length := by rwa [Nat.div_lt_iff_lt_mul hk]
    have e := flatMap_get hc L (t / k) (t % k) L[t / k] (List.getElem?_eq_getElem hj) (Nat.mod_lt _ hk)
    rw [show t / k * k + t % k = t by rw [Nat.mul_comm]; exact Nat.div_add_mod t k] at e
    rw [e]
    have hs : t < (flatK c k L.toArray).toList.length := by simpa using ht
    rw [List.getElem?_eq_getElem hs]
    have g := get_flatK c k L.toArray t (by simpa using ht)
    rw [getElem!_pos _ t (by simpa using ht)] at g
    rw [Array.getElem_toList, g]
    have hm : t % k < (c L[t / k]).length := by rw [hc]; exact Nat.mod_lt _ hk
    rw [getElem!_pos L.toArray (t / k) (by simpa using hj), List.getElem_toArray, List.getElem!_eq_getElem?_getD, List.getElem?_eq_getElem hm]
    rfl
  · rw [List.getElem?_eq_none (by simpa using ht), List.getElem?_eq_none (by rw [flatMap_len hc]; omega)]
theorem block_sortK {α : Type} [Inhabited α] {c : α → List Value} {k : Nat} {w : World} {g n : Nat} {os : Array Obj} {d : Array α} {cur : Array Value} {T : TypeId} {fr : Nat × Nat} (hb : w.heap[g]? = some (.cells cur T fr)) :
    (sortWorldK c k w g 0 n d os).heap[g]? = some (.cells (putCells id 0 (flatK c k d) cur) T fr) := by
  have hl : g < w.heap.size := (Array.getElem?_eq_some_iff.1 hb).1
  unfold sortWorldK putRowK
  rw [heap_grow_old _ _ (by simpa [putRow, mapBlock, Sort.ahead] using hl)]
  simp [putRow, mapBlock, Sort.ahead, Array.getElem?_modify, hb, onCells]
theorem cmpLaysW (blk off size : Nat) (w : World) : CmpLays Try.prog 30 #[] cW 5 cmpW blk off size w := fun _ _ _ _ x y =>
  (dcmpW_any x y _).mono fun _ _ ⟨he, hx⟩ => ⟨he, hx.grown⟩
theorem enterW : ∀ args w, (callFunc 30 args).run Try.prog w = .ok (.enter 30 args) w := enters_of Try.func30 (by kernel_rfl) rfl
/-- slices.SortFunc at walls by Cmp. -/
theorem sortW_any (B : Nat) (v : Value) (L : List Wl) (hL : L.length ≤ 3000000) (w : World) (h : WRow w B v L) :
    Calls Try.prog 35 #[v, .func (.func 30) #[] #[]] w fun e w' => e = .returned (.tuple #[]) ∧ w.grownBy w' v.ownBlock ∧ WRow w' B v (srt cmpW L) := by
  have h2 := h.2
  have hlen : (srt cmpW L).length = L.length := (srt_perm (c := cmpW) L).length_eq
  rcases h2 with ⟨rfl, h0⟩ | ⟨g, cap, cur, rfl, hB, hb, h1, h2, h3, h4⟩
  · have : L = [] := List.eq_nil_of_length_eq_zero h0
    subst this
    have hc := AnyF.slices_SortFunc_none { sortWl with } none 0 (.func (.func 30) #[] #[]) w
    change Calls Try.prog 35 _ _ _ at hc
    exact hc.mono fun e w' ⟨he, hw⟩ => ⟨he, hw ▸ ⟨rfl, rfl, rfl, Nat.le_refl _, fun _ _ _ => rfl⟩, by rw [hw, show srt cmpW ([] : List Wl) = [] by simp [srt]]; exact WRow.nil0 _ _⟩
  · obtain ⟨hH, hg⟩ := holdsK_of_owns cW_len h
    have hc := AnyQ.slices_SortFunc_total sortWl 5 Try.isAgg35 Try.sizeOf35 cW cW_len cW_one cmpW wholeW.swo 30 #[] g 0 cap L.toArray w enterW (cmpLaysW g 0 _ w) hH hg (by simp; omega) wholeW.one
    change Calls Try.prog 35 _ _ _ at hc
    rw [show L.toArray.size = L.length by simp] at hc
    refine hc.mono fun e w' ⟨he, n, os, hw⟩ => ⟨he, ?_, ?_⟩
    · rw [hw]; exact grownBy_sortK _
    · replace hw : w' = sortWorldK cW 5 w g 0 n (srt cmpW L).toArray os := hw
      rw [hw]
      refine ⟨flatMap_len cW_len _, .inr ⟨g, cap, _, by rw [hlen], hB, block_sortK hb, by rw [hlen]; exact h1, h2, by simp [putCells, h3], ?_⟩⟩
      rw [← flatK_list cW_len (srt cmpW L) (by omega)]
      have hF : (flatK cW 5 (srt cmpW L).toArray).size = L.length * 5 := by simp [hlen]
      have hcs : L.length * 5 ≤ cur.size := by rw [h3]; omega
      rw [hlen]
      apply List.ext_getElem
      · simp [putCells, hlen]; omega
      · intro t h5 h6
        have h7 : t < L.length * 5 := by simpa [hlen] using h6
        have h8 : t < (flatK cW 5 (srt cmpW L).toArray).size := by rw [hF]; exact h7
        have h9 : t < cur.size := by omega
        simp only [List.getElem_take, Array.getElem_toList, putCells, Array.getElem_mapIdx, Nat.zero_add, Nat.sub_zero, Nat.zero_le, true_and, id]
        rw [if_pos h8, getElem!_pos _ t h8]
theorem info_wall : (Try.prog.info? 35).map (fun i => (i.zero, i.size, i.bytes)) = some (some (.agg #[.int .i64 0, .int .i64 0, .int .i64 0, .int .i64 0, .int .i64 0]), 5, 40) := by kernel_rfl
theorem RowAt.flat {w : World} {b off : Nat} {L : List Wl} (h : RowAt cW 5 w (some ⟨b, off, none⟩) L) : ∀ t u, (L.flatMap cW)[t]? = some u → b < w.heap.size ∧ w.cell? ⟨b, off + t, none⟩ = some u := fun t u hu => by
  have ht : t < L.length * 5 := by have := (List.getElem?_eq_some_iff.1 hu).1; rwa [flatMap_len cW_len] at this
  have hj : t / 5 < L.length := by omega
  have e := flatMap_get cW_len L (t / 5) (t % 5) L[t / 5] (List.getElem?_eq_getElem hj) (by omega)
  rw [show t / 5 * 5 + t % 5 = t by omega, hu] at e
  obtain ⟨ad, h1, h2, h3⟩ := h (t / 5) L[t / 5] (List.getElem?_eq_getElem hj)
  cases h1
  have h4 := h3 (t % 5) u e.symm
  simp only [Addr.add_lit] at h4
  rw [show off + t / 5 * 5 + t % 5 = off + t by omega] at h4
  exact ⟨h2, h4⟩
theorem flat_form {a : Option Addr} (hf : Flat a) : a = none ∨ ∃ b off, a = some ⟨b, off, none⟩ := by
  cases a with
  | none => exact .inl rfl
  | some ad => obtain ⟨b, off, sp⟩ := ad; have := hf _ rfl; simp at this; subst this; exact .inr ⟨b, off, rfl⟩
/-- slices.Clone at walls. -/
theorem cloneW_any (a : Option Addr) (c : Nat) (L : List Wl) (hL : L.length ≤ 1000000) (w : World) (h : RowAt cW 5 w a L) (hf : Flat a) (hz : a = none → L = []) :
    Calls Try.prog 34 #[.slice a L.length c] w fun e w' => ∃ v', e = .returned v' ∧ WRow w' w.heap.size v' L ∧ Below w.heap.size w w' := by
  rcases flat_form hf with rfl | ⟨b, off, rfl⟩
  · have := hz rfl; subst this
    exact (AnyE.slices_Clone_nil cloneWl 0 c w).mono fun e w' ⟨he, hw⟩ => ⟨_, he, by rw [hw]; exact WRow.nil0 _ _, by rw [hw]; exact Below.refl _ _⟩
  · obtain ⟨i0, hi, hz0, hz1, hz2⟩ := info_parts info_wall
    refine (AnyE.slices_Clone cloneWl i0 _ 5 40 hi hz0 hz1 hz2 rfl (by decide) Try.sizeOf35 b off L.length c (L.flatMap cW) w (flatMap_len cW_len L) (by unfold maxLen; omega) (by omega) (fun j u hu => (h.flat j u hu).2) ?_).mono ?_
    · intro u hu
      obtain ⟨x, _, hx⟩ := List.mem_flatMap.1 hu
      exact cW_one x u hx
    · rintro e w' ⟨v', he, ho, _, hb⟩
      exact ⟨v', he, ho, hb⟩
/-- slices.ContainsFunc at walls. -/
theorem conW_nil (a : Option Addr) (c : Nat) (f : Value) (w : World) :
    Calls Try.prog 58 #[.slice a 0 c, f] w fun e w' => e = .returned (.int .i64 (-1)) ∧ Below w.heap.size w w' := by
  go_enter Try.func58, Try.ntmps58
  go_wp2
  refine wp_loop_rounds 1 ?_
  try rw [rounds_succ]
  go_wp2
  go_ret
  exact ⟨rfl, by go_grown⟩
theorem conW_empty (a : Option Addr) (c : Nat) (f : Value) (w : World) :
    Calls Try.prog 32 #[.slice a 0 c, f] w fun e w' => e = .returned (.bool false) ∧ Below w.heap.size w w' := by
  have c1 := conW_nil a c f
  go_enter Try.func32, Try.ntmps32
  go_wp2_with fail
  refine (c1 _).mono ?_
  rintro e w1 ⟨rfl, hb⟩
  go_wp2
  go_ret
  exact ⟨rfl, hb⟩
theorem conW_any (p : Wl → Bool) (g : Nat) (lb : Array Value) (eg : ∀ args w, (callFunc g args).run Try.prog w = .ok (.enter g args) w) (a : Option Addr) (c : Nat) (L : List Wl) (hL : L.length ≤ 1000000) (w : World) (h : RowAt cW 5 w a L) (hf : Flat a)
    (hp : PredBelow Try.prog g lb (fun x => .agg (cW x).toArray) p w) :
    Calls Try.prog 32 #[.slice a L.length c, .func (.func g) #[] lb] w fun e w' => e = .returned (.bool (L.any p)) ∧ Below w.heap.size w w' := by
  by_cases hn : L = []
  · subst hn; exact conW_empty a c _ w
  · have h0 : 0 < L.length := List.length_pos_iff.2 hn
    rcases flat_form hf with rfl | ⟨b, off, rfl⟩
    · obtain ⟨ad, h1, _⟩ := h 0 L[0] (List.getElem?_eq_getElem h0); cases h1
    · have hb : b < w.heap.size := by obtain ⟨ad, h1, h2, _⟩ := h 0 L[0] (List.getElem?_eq_getElem h0); cases h1; exact h2
      have hc := AnyQ.slices_ContainsFunc conWl 5 Try.isAgg35 Try.sizeOf35 cW cW_len p g lb eg b off L.length c L w hp (Nat.le_refl _) (by omega) hb (fun j hj i v hv => by
        rw [getElem!_pos L j hj] at hv
        obtain ⟨ad, h1, _, h3⟩ := h j L[j] (List.getElem?_eq_getElem hj)
        cases h1
        have := h3 i v hv
        simpa only [Addr.add_lit] using this)
      change Calls Try.prog 32 _ _ _ at hc
      rwa [List.take_of_length_le (Nat.le_refl _)] at hc
end Go.Proofs.Ytnocdecimcpkfaa

namespace Go.Proofs.Ytnocdecimcpkfaa
open Go.RowKit Go.Sort
attribute [local go_sem] rOper rAt rUpon cell_set sg_i64 sg_u64 alloc_cell alloc_frozen
attribute [local go_sem 10000] pt_eql pt_neq wal_eql wal_neq
attribute [local irreducible] rWalk

def bsb (f : Wl → Int) (L : List Wl) (m : Nat) : Bool := match L[m]? with | some x => f x == 0 | none => false
theorem toExt2 {P : Program} {f : FuncId} {args : Array Value} {v : Value} {W : World} (c : ∀ d os, Calls P f args (grow (redrawn W d) os) fun e w' => e = .returned v ∧ Below (grow (redrawn W d) os).heap.size (grow (redrawn W d) os) w') : ∀ d os, Calls P f args (grow (redrawn W d) os) fun e w' => e = .returned v ∧ Ext (grow (redrawn W d) os) w' := c
def Five (w : World) (A : Addr) (p : Wl) : Prop := A.block < w.heap.size ∧ w.cell? A = some (.int .i64 p.A.x) ∧ w.cell? ⟨A.block, A.off + 1, none⟩ = some (.int .i64 p.A.y) ∧ w.cell? ⟨A.block, A.off + 2, none⟩ = some (.int .i64 p.B.x) ∧ w.cell? ⟨A.block, A.off + 3, none⟩ = some (.int .i64 p.B.y) ∧ w.cell? ⟨A.block, A.off + 4, none⟩ = some (.int .i64 p.K)
theorem RowAt.five {w : World} {a : Option Addr} {L : List Wl} (h : RowAt cW 5 w a L) {j : Nat} (hj : j < L.length) : ∃ ad A, a = some ad ∧ ad.add (j * 5) = A ∧ Five w A L[j] := by
  obtain ⟨ad, A, h1, h2, _, h4, h5⟩ := h.wal hj
  exact ⟨ad, A, h1, h2, h4, h5⟩
theorem Five.ext {w w' : World} {A : Addr} {p : Wl} {n : Nat} (h : Five w A p) (hb : Below n w w') (hn : n = w.heap.size) : Five w' A p := by
  obtain ⟨h0, h1, h2, h3, h4, h5⟩ := h
  have e : ∀ q : Addr, q.block = A.block → w'.cell? q = w.cell? q := fun q hq => hb.cell (by rw [hq, hn]; exact h0)
  exact ⟨Nat.lt_of_lt_of_le h0 hb.size, (e A rfl).trans h1, (e ⟨A.block, A.off + 1, none⟩ rfl).trans h2, (e ⟨A.block, A.off + 2, none⟩ rfl).trans h3, (e ⟨A.block, A.off + 3, none⟩ rfl).trans h4, (e ⟨A.block, A.off + 4, none⟩ rfl).trans h5⟩
theorem Five.facts {w : World} {A : Addr} {p : Wl} (h : Five w A p) : (A.block = w.heap.size) = False ∧ w.cell? A = some (.int .i64 p.A.x) ∧ w.cell? ⟨A.block, A.off + 1, none⟩ = some (.int .i64 p.A.y) ∧ w.cell? ⟨A.block, A.off + 2, none⟩ = some (.int .i64 p.B.x) ∧ w.cell? ⟨A.block, A.off + 3, none⟩ = some (.int .i64 p.B.y) ∧ w.cell? ⟨A.block, A.off + 4, none⟩ = some (.int .i64 p.K) := ⟨by simp; have := h.1; omega, h.2⟩
theorem Five.cells {w : World} {A : Addr} {p : Wl} (h : Five w A p) : (∀ d os, (grow (redrawn w d) os).cell? A = some (.int .i64 p.A.x)) ∧ (∀ d os, (grow (redrawn w d) os).cell? ⟨A.block, A.off + 1, none⟩ = some (.int .i64 p.A.y)) ∧ (∀ d os, (grow (redrawn w d) os).cell? ⟨A.block, A.off + 2, none⟩ = some (.int .i64 p.B.x)) ∧ (∀ d os, (grow (redrawn w d) os).cell? ⟨A.block, A.off + 3, none⟩ = some (.int .i64 p.B.y)) ∧ (∀ d os, (grow (redrawn w d) os).cell? ⟨A.block, A.off + 4, none⟩ = some (.int .i64 p.K)) := by
  have e := fun d os => (h.ext (below_regrown w d os) rfl).2
  exact ⟨fun d os => (e d os).1, fun d os => (e d os).2.1, fun d os => (e d os).2.2.1, fun d os => (e d os).2.2.2.1, fun d os => (e d os).2.2.2.2⟩
set_option maxHeartbeats 1000000 in
theorem bsW_any (a : Option Addr) (c : Nat) (L : List Wl) (hL : L.length ≤ 1000000) (T : Wl) (m : Nat) (hm : ∀ (k : Nat) (hk : k < L.length), cmpW L[k] T < 0 ↔ k < m) (hmn : m ≤ L.length) (w : World) (h : RowAt cW 5 w a L) :
    Calls Try.prog 63 #[.slice a L.length c, .agg #[.int .i64 T.A.x, .int .i64 T.A.y, .int .i64 T.B.x, .int .i64 T.B.y, .int .i64 T.K], .func (.func 30) #[] #[]] w fun e w' => e = .returned (.tuple #[.int .i64 m, .bool (bsb (fun x => cmpW x T) L m)]) ∧ Below w.heap.size w w' := by
  obtain ⟨n, hn1⟩ : ∃ n, L.length = n := ⟨_, rfl⟩
  have hn : n ≤ 1000000 := hn1 ▸ hL
  have hmn' : m ≤ n := hn1 ▸ hmn
  have H1 := Lib.hid hn1
  have HM := Lib.hid hm
  rw [hn1]
  clear hL hmn hm hn1
  have hnl : n ≤ n := Nat.le_refl n
  go_enter Try.func63, Try.ntmps63
  go_wp2_with fail
  refine at_world fun W1 hW => ?_
  have BT : Box W1 w.heap.size [.int .i64 T.A.x, .int .i64 T.A.y, .int .i64 T.B.x, .int .i64 T.B.y, .int .i64 T.K] 35 := by rw [hW]; exact Box.new rfl
  have hw : Below w.heap.size w W1 := by rw [hW]; go_grown
  clear hW
  go_loopw [9, 10, 11] (fun vi vj vh wr => ∃ i j : Nat, vi = .int .i64 i ∧ vj = .int .i64 j ∧ i ≤ m ∧ m ≤ j ∧ j ≤ n ∧ Below w.heap.size w wr ∧ Box wr w.heap.size [.int .i64 T.A.x, .int .i64 T.A.y, .int .i64 T.B.x, .int .i64 T.B.y, .int .i64 T.K] 35) (fun vi vj _ _ => (intOf vj).toNat - (intOf vi).toNat)
  case atStart => exact ⟨0, n, rfl, rfl, Nat.zero_le _, hmn', hnl, hw, BT⟩
  case round =>
    clear BT hw
    obtain ⟨i, j, rfl, rfl, h1, h2, h3, hwr, BT⟩ := hrel
    by_cases hij : i < j
    · have hh : i < (i + j) / 2 + 1 ∧ (i + j) / 2 < j := by omega
      obtain ⟨q, hq⟩ : ∃ q, (i + j) / 2 = q := ⟨_, rfl⟩
      rw [hq] at hh
      obtain ⟨hh1, hh2⟩ := hh
      have hqn : q < n := by omega
      have hqi : ((i : Int) + (j : Int)) / 2 = (q : Int) := by omega
      have hmq := HM.out q (by rw [H1.out]; exact hqn)
      obtain ⟨ad, A, ea, eA, hA⟩ := (h.ext hwr rfl).five (j := q) (by rw [H1.out]; exact hqn)
      have cc := cmpW_any (L[q]'(by rw [H1.out]; exact hqn)) T
      have gT := BT.cells
      obtain ⟨s0, s1, s2, s3, s4⟩ := hA.cells
      generalize L[q]'(by rw [H1.out]; exact hqn) = X at *
      generalize cmpW X T = z at *
      have HQ := Lib.hid hmq
      have H12 := Lib.hid (And.intro (And.intro h1 h2) (And.intro hh1 hh2))
      clear hmq h1 h2 hq hh1 hh2
      subst ea
      by_cases hz : z < 0
      · have hd : decide (z < 0) = true := by simpa using hz
        have HZ := Lib.hid (HQ.out.1 hz)
        clear hz
        go_wp2_with fail
        refine (wp_region_tail 7 (by kernel_rfl) (by kernel_rfl) (C := fun w' => ∃ p : Regrown, w' = grow (redrawn wr p.d) p.os) (fun w' h => regrown_of_below h) ?_)
        simp only [List.take_succ_cons, List.take_zero, List.drop_succ_cons, List.drop_zero]
        repeat (first | (refine rWalk_skip (Eq.refl false) ?_; simp only [Act.put, List.setIfInBounds_toArray, List.set_cons_succ, List.set_cons_zero]) | (refine rWalk_step (fun K hK => ?_); go_simp; first | (refine hK _ ?_; clear hK K) | (apply Exists.intro; refine ⟨fun _ => ?_, hK _ ?_⟩; (first | with_reducible exact toExt cc _); clear hK K)))
        refine rWalk_nil ?_
        intro w2 hb
        have hw2 := hwr.trans (hb.mono hwr.size)
        have BT2 := BT.ext hb rfl
        clear gT s0 s1 s2 s3 s4 hA
        go_wp2
        go_roundw
        case rel => exact ⟨q + 1, j, by go_num, rfl, HZ.out, H12.out.1.2, h3, hw2, BT2⟩
        case measure => simp [intOf]; have := H12.out.2.1; have := H12.out.2.2; omega
      · have hd : decide (z < 0) = false := by simpa using hz
        have HZ := Lib.hid (show m ≤ q from Nat.le_of_not_lt fun e => hz (HQ.out.2 e))
        clear hz
        go_wp2_with fail
        refine (wp_region_tail 7 (by kernel_rfl) (by kernel_rfl) (C := fun w' => ∃ p : Regrown, w' = grow (redrawn wr p.d) p.os) (fun w' h => regrown_of_below h) ?_)
        simp only [List.take_succ_cons, List.take_zero, List.drop_succ_cons, List.drop_zero]
        repeat (first | (refine rWalk_skip (Eq.refl false) ?_; simp only [Act.put, List.setIfInBounds_toArray, List.set_cons_succ, List.set_cons_zero]) | (refine rWalk_step (fun K hK => ?_); go_simp; first | (refine hK _ ?_; clear hK K) | (apply Exists.intro; refine ⟨fun _ => ?_, hK _ ?_⟩; (first | with_reducible exact toExt cc _); clear hK K)))
        refine rWalk_nil ?_
        intro w2 hb
        have hw2 := hwr.trans (hb.mono hwr.size)
        have BT2 := BT.ext hb rfl
        clear gT s0 s1 s2 s3 s4 hA
        go_wp2
        go_roundw
        case rel => exact ⟨i, q, rfl, rfl, H12.out.1.1, HZ.out, by omega, hw2, BT2⟩
        case measure => simp [intOf]; have := H12.out.2.1; have := H12.out.2.2; omega
    · obtain rfl : i = m := by omega
      obtain rfl : j = i := by omega
      have gT := BT.cells
      by_cases hlt : j < n
      · obtain ⟨ad, A, ea, eA, hA⟩ := (h.ext hwr rfl).five (j := j) (by rw [H1.out]; exact hlt)
        have cc := cmpW_any (L[j]'(by rw [H1.out]; exact hlt)) T
        have HB : Hid (bsb (fun x => cmpW x T) L j = (cmpW (L[j]'(by rw [H1.out]; exact hlt)) T == 0)) := Lib.hid (by unfold bsb; rw [List.getElem?_eq_getElem (by rw [H1.out]; exact hlt)])
        generalize L[j]'(by rw [H1.out]; exact hlt) = X at *
        generalize cmpW X T = z at *
        obtain ⟨s0, s1, s2, s3, s4⟩ := hA.cells
        subst ea
        go_wp2_with fail
        refine (wp_region_tail 15 (by kernel_rfl) (by kernel_rfl) (C := fun w' => ∃ p : Regrown, w' = grow (redrawn wr p.d) p.os) (fun w' h => regrown_of_below h) ?_)
        simp only [List.take_succ_cons, List.take_zero, List.drop_succ_cons, List.drop_zero]
        repeat (first | (refine rWalk_skip (Eq.refl false) ?_; simp only [Act.put, List.setIfInBounds_toArray, List.set_cons_succ, List.set_cons_zero]) | (refine rWalk_step (fun K hK => ?_); go_simp; first | (refine hK _ ?_; clear hK K) | (apply Exists.intro; refine ⟨fun _ => ?_, hK _ ?_⟩; (first | with_reducible exact toExt cc _); clear hK K)))
        refine rWalk_nil ?_
        intro w2 hb
        have hw2 := hwr.trans (hb.mono hwr.size)
        clear gT s0 s1 s2 s3 s4 hA
        go_wp2_with fail
        refine bodyPost_ret (v := .tuple #[.int .i64 j, .bool (z == 0)]) (by simp [results, Try.results63, go_sem]) rfl ⟨by rw [HB.out], hw2⟩
      · have HB : Hid (bsb (fun x => cmpW x T) L j = false) := Lib.hid (by unfold bsb; rw [List.getElem?_eq_none (by rw [H1.out]; omega)])
        go_wp2_with fail
        refine (wp_region_tail 15 (by kernel_rfl) (by kernel_rfl) (C := fun w' => ∃ p : Regrown, w' = grow (redrawn wr p.d) p.os) (fun w' h => regrown_of_below h) ?_)
        simp only [List.take_succ_cons, List.take_zero, List.drop_succ_cons, List.drop_zero]
        repeat (first | (refine rWalk_skip (Eq.refl false) ?_; simp only [Act.put, List.setIfInBounds_toArray, List.set_cons_succ, List.set_cons_zero]) | (refine rWalk_step (fun K hK => ?_); go_simp; first | (refine hK _ ?_; clear hK K) | (apply Exists.intro; refine ⟨fun _ => ?_, hK _ ?_⟩; (first | fail); clear hK K)))
        refine rWalk_nil ?_
        intro w2 hb
        have hw2 := hwr.trans (hb.mono hwr.size)
        clear gT
        go_wp2_with fail
        refine bodyPost_ret (v := .tuple #[.int .i64 j, .bool false]) (by simp [results, Try.results63, go_sem]) rfl ⟨by rw [HB.out], hw2⟩
def bgn (X : Wl) (p : Pt) : Int := if decide (0 < cmpP X.A p) then 1 else -1
theorem bgn_0 (X : Wl) (p : Pt) (h : decide (0 < cmpP X.A p) = false) (w : World) :
    Calls Try.prog 67 #[.agg #[.int .i64 X.A.x, .int .i64 X.A.y, .int .i64 X.B.x, .int .i64 X.B.y, .int .i64 X.K], .agg #[.int .i64 p.x, .int .i64 p.y]] w fun e w' => e = .returned (.int .i64 (bgn X p)) ∧ Below w.heap.size w w' := by
  have c1 := cmp_pt X.A p
  rw [show bgn X p = -1 by unfold bgn; rw [h]; rfl]
  generalize cmpP X.A p = z at *
  go_enter Try.func67, Try.ntmps67
  go_wp2_with fail
  refine at_call fun W1 hW => ?_
  have Bx : Box W1 (w.heap.size) [.int .i64 X.A.x, .int .i64 X.A.y, .int .i64 X.B.x, .int .i64 X.B.y, .int .i64 X.K] 35 := by rw [hW]; exact (Box.new rfl).old _
  have Bp : Box W1 (w.heap.size + 1) [.int .i64 p.x, .int .i64 p.y] 33 := by rw [hW]; exact Box.new (by simp)
  have hw : Below w.heap.size w W1 := by rw [hW]; go_grown
  clear hW
  refine (c1 _).mono ?_
  rintro e w2 ⟨rfl, hb⟩
  replace Bx := Bx.ext hb rfl
  replace Bp := Bp.ext hb rfl
  replace hw := hw.trans (hb.mono hw.size)
  clear hb
  obtain ⟨xx, yx, zx, vx⟩ := Bx.facts
  obtain ⟨xp, yp, zp, vp⟩ := Bp.facts
  go_wp2
  go_ret
  exact ⟨rfl, by have hl := hw.size; go_grown⟩

theorem bgn_1 (X : Wl) (p : Pt) (h : decide (0 < cmpP X.A p) = true) (w : World) :
    Calls Try.prog 67 #[.agg #[.int .i64 X.A.x, .int .i64 X.A.y, .int .i64 X.B.x, .int .i64 X.B.y, .int .i64 X.K], .agg #[.int .i64 p.x, .int .i64 p.y]] w fun e w' => e = .returned (.int .i64 (bgn X p)) ∧ Below w.heap.size w w' := by
  have c1 := cmp_pt X.A p
  rw [show bgn X p = 1 by unfold bgn; rw [h]; rfl]
  generalize cmpP X.A p = z at *
  go_enter Try.func67, Try.ntmps67
  go_wp2_with fail
  refine at_call fun W1 hW => ?_
  have Bx : Box W1 (w.heap.size) [.int .i64 X.A.x, .int .i64 X.A.y, .int .i64 X.B.x, .int .i64 X.B.y, .int .i64 X.K] 35 := by rw [hW]; exact (Box.new rfl).old _
  have Bp : Box W1 (w.heap.size + 1) [.int .i64 p.x, .int .i64 p.y] 33 := by rw [hW]; exact Box.new (by simp)
  have hw : Below w.heap.size w W1 := by rw [hW]; go_grown
  clear hW
  refine (c1 _).mono ?_
  rintro e w2 ⟨rfl, hb⟩
  replace Bx := Bx.ext hb rfl
  replace Bp := Bp.ext hb rfl
  replace hw := hw.trans (hb.mono hw.size)
  clear hb
  obtain ⟨xx, yx, zx, vx⟩ := Bx.facts
  obtain ⟨xp, yp, zp, vp⟩ := Bp.facts
  go_wp2
  go_ret
  exact ⟨rfl, by have hl := hw.size; go_grown⟩

theorem bgn_any (X : Wl) (p : Pt) (w : World) :
    Calls Try.prog 67 #[.agg #[.int .i64 X.A.x, .int .i64 X.A.y, .int .i64 X.B.x, .int .i64 X.B.y, .int .i64 X.K], .agg #[.int .i64 p.x, .int .i64 p.y]] w fun e w' => e = .returned (.int .i64 (bgn X p)) ∧ Below w.heap.size w w' := by
  cases h : decide (0 < cmpP X.A p) with
  | false => exact bgn_0 X p h w
  | true => exact bgn_1 X p h w
set_option maxHeartbeats 1000000 in
theorem bsP_any (a : Option Addr) (c : Nat) (L : List Wl) (hL : L.length ≤ 1000000) (p : Pt) (m : Nat) (hm : ∀ (k : Nat) (hk : k < L.length), bgn L[k] p < 0 ↔ k < m) (hmn : m ≤ L.length) (w : World) (h : RowAt cW 5 w a L) :
    Calls Try.prog 66 #[.slice a L.length c, .agg #[.int .i64 p.x, .int .i64 p.y], .func (.func 67) #[] #[]] w fun e w' => e = .returned (.tuple #[.int .i64 m, .bool (bsb (fun x => bgn x p) L m)]) ∧ Below w.heap.size w w' := by
  obtain ⟨n, hn1⟩ : ∃ n, L.length = n := ⟨_, rfl⟩
  have hn : n ≤ 1000000 := hn1 ▸ hL
  have hmn' : m ≤ n := hn1 ▸ hmn
  have H1 := Lib.hid hn1
  have HM := Lib.hid hm
  rw [hn1]
  clear hL hmn hm hn1
  have hnl : n ≤ n := Nat.le_refl n
  go_enter Try.func66, Try.ntmps66
  go_wp2_with fail
  refine at_world fun W1 hW => ?_
  have BT : Box W1 w.heap.size [.int .i64 p.x, .int .i64 p.y] 33 := by rw [hW]; exact Box.new rfl
  have hw : Below w.heap.size w W1 := by rw [hW]; go_grown
  clear hW
  go_loopw [9, 10, 11] (fun vi vj vh wr => ∃ i j : Nat, vi = .int .i64 i ∧ vj = .int .i64 j ∧ i ≤ m ∧ m ≤ j ∧ j ≤ n ∧ Below w.heap.size w wr ∧ Box wr w.heap.size [.int .i64 p.x, .int .i64 p.y] 33) (fun vi vj _ _ => (intOf vj).toNat - (intOf vi).toNat)
  case atStart => exact ⟨0, n, rfl, rfl, Nat.zero_le _, hmn', hnl, hw, BT⟩
  case round =>
    clear BT hw
    obtain ⟨i, j, rfl, rfl, h1, h2, h3, hwr, BT⟩ := hrel
    by_cases hij : i < j
    · have hh : i < (i + j) / 2 + 1 ∧ (i + j) / 2 < j := by omega
      obtain ⟨q, hq⟩ : ∃ q, (i + j) / 2 = q := ⟨_, rfl⟩
      rw [hq] at hh
      obtain ⟨hh1, hh2⟩ := hh
      have hqn : q < n := by omega
      have hqi : ((i : Int) + (j : Int)) / 2 = (q : Int) := by omega
      have hmq := HM.out q (by rw [H1.out]; exact hqn)
      obtain ⟨ad, A, ea, eA, hA⟩ := (h.ext hwr rfl).five (j := q) (by rw [H1.out]; exact hqn)
      have cc := bgn_any (L[q]'(by rw [H1.out]; exact hqn)) p
      have gT := BT.cells
      obtain ⟨s0, s1, s2, s3, s4⟩ := hA.cells
      generalize L[q]'(by rw [H1.out]; exact hqn) = X at *
      generalize bgn X p = z at *
      have HQ := Lib.hid hmq
      have H12 := Lib.hid (And.intro (And.intro h1 h2) (And.intro hh1 hh2))
      clear hmq h1 h2 hq hh1 hh2
      subst ea
      by_cases hz : z < 0
      · have hd : decide (z < 0) = true := by simpa using hz
        have HZ := Lib.hid (HQ.out.1 hz)
        clear hz
        go_wp2_with fail
        refine (wp_region_tail 7 (by kernel_rfl) (by kernel_rfl) (C := fun w' => ∃ p : Regrown, w' = grow (redrawn wr p.d) p.os) (fun w' h => regrown_of_below h) ?_)
        simp only [List.take_succ_cons, List.take_zero, List.drop_succ_cons, List.drop_zero]
        repeat (first | (refine rWalk_skip (Eq.refl false) ?_; simp only [Act.put, List.setIfInBounds_toArray, List.set_cons_succ, List.set_cons_zero]) | (refine rWalk_step (fun K hK => ?_); go_simp; first | (refine hK _ ?_; clear hK K) | (apply Exists.intro; refine ⟨fun _ => ?_, hK _ ?_⟩; (first | with_reducible exact toExt cc _); clear hK K)))
        refine rWalk_nil ?_
        intro w2 hb
        have hw2 := hwr.trans (hb.mono hwr.size)
        have BT2 := BT.ext hb rfl
        clear gT s0 s1 s2 s3 s4 hA
        go_wp2
        go_roundw
        case rel => exact ⟨q + 1, j, by go_num, rfl, HZ.out, H12.out.1.2, h3, hw2, BT2⟩
        case measure => simp [intOf]; have := H12.out.2.1; have := H12.out.2.2; omega
      · have hd : decide (z < 0) = false := by simpa using hz
        have HZ := Lib.hid (show m ≤ q from Nat.le_of_not_lt fun e => hz (HQ.out.2 e))
        clear hz
        go_wp2_with fail
        refine (wp_region_tail 7 (by kernel_rfl) (by kernel_rfl) (C := fun w' => ∃ p : Regrown, w' = grow (redrawn wr p.d) p.os) (fun w' h => regrown_of_below h) ?_)
        simp only [List.take_succ_cons, List.take_zero, List.drop_succ_cons, List.drop_zero]
        repeat (first | (refine rWalk_skip (Eq.refl false) ?_; simp only [Act.put, List.setIfInBounds_toArray, List.set_cons_succ, List.set_cons_zero]) | (refine rWalk_step (fun K hK => ?_); go_simp; first | (refine hK _ ?_; clear hK K) | (apply Exists.intro; refine ⟨fun _ => ?_, hK _ ?_⟩; (first | with_reducible exact toExt cc _); clear hK K)))
        refine rWalk_nil ?_
        intro w2 hb
        have hw2 := hwr.trans (hb.mono hwr.size)
        have BT2 := BT.ext hb rfl
        clear gT s0 s1 s2 s3 s4 hA
        go_wp2
        go_roundw
        case rel => exact ⟨i, q, rfl, rfl, H12.out.1.1, HZ.out, by omega, hw2, BT2⟩
        case measure => simp [intOf]; have := H12.out.2.1; have := H12.out.2.2; omega
    · obtain rfl : i = m := by omega
      obtain rfl : j = i := by omega
      have gT := BT.cells
      by_cases hlt : j < n
      · obtain ⟨ad, A, ea, eA, hA⟩ := (h.ext hwr rfl).five (j := j) (by rw [H1.out]; exact hlt)
        have cc := bgn_any (L[j]'(by rw [H1.out]; exact hlt)) p
        have HB : Hid (bsb (fun x => bgn x p) L j = (bgn (L[j]'(by rw [H1.out]; exact hlt)) p == 0)) := Lib.hid (by unfold bsb; rw [List.getElem?_eq_getElem (by rw [H1.out]; exact hlt)])
        generalize L[j]'(by rw [H1.out]; exact hlt) = X at *
        generalize bgn X p = z at *
        obtain ⟨s0, s1, s2, s3, s4⟩ := hA.cells
        subst ea
        go_wp2_with fail
        refine (wp_region_tail 15 (by kernel_rfl) (by kernel_rfl) (C := fun w' => ∃ p : Regrown, w' = grow (redrawn wr p.d) p.os) (fun w' h => regrown_of_below h) ?_)
        simp only [List.take_succ_cons, List.take_zero, List.drop_succ_cons, List.drop_zero]
        repeat (first | (refine rWalk_skip (Eq.refl false) ?_; simp only [Act.put, List.setIfInBounds_toArray, List.set_cons_succ, List.set_cons_zero]) | (refine rWalk_step (fun K hK => ?_); go_simp; first | (refine hK _ ?_; clear hK K) | (apply Exists.intro; refine ⟨fun _ => ?_, hK _ ?_⟩; (first | with_reducible exact toExt cc _); clear hK K)))
        refine rWalk_nil ?_
        intro w2 hb
        have hw2 := hwr.trans (hb.mono hwr.size)
        clear gT s0 s1 s2 s3 s4 hA
        go_wp2_with fail
        refine bodyPost_ret (v := .tuple #[.int .i64 j, .bool (z == 0)]) (by simp [results, Try.results66, go_sem]) rfl ⟨by rw [HB.out], hw2⟩
      · have HB : Hid (bsb (fun x => bgn x p) L j = false) := Lib.hid (by unfold bsb; rw [List.getElem?_eq_none (by rw [H1.out]; omega)])
        go_wp2_with fail
        refine (wp_region_tail 15 (by kernel_rfl) (by kernel_rfl) (C := fun w' => ∃ p : Regrown, w' = grow (redrawn wr p.d) p.os) (fun w' h => regrown_of_below h) ?_)
        simp only [List.take_succ_cons, List.take_zero, List.drop_succ_cons, List.drop_zero]
        repeat (first | (refine rWalk_skip (Eq.refl false) ?_; simp only [Act.put, List.setIfInBounds_toArray, List.set_cons_succ, List.set_cons_zero]) | (refine rWalk_step (fun K hK => ?_); go_simp; first | (refine hK _ ?_; clear hK K) | (apply Exists.intro; refine ⟨fun _ => ?_, hK _ ?_⟩; (first | fail); clear hK K)))
        refine rWalk_nil ?_
        intro w2 hb
        have hw2 := hwr.trans (hb.mono hwr.size)
        clear gT
        go_wp2_with fail
        refine bodyPost_ret (v := .tuple #[.int .i64 j, .bool false]) (by simp [results, Try.results66, go_sem]) rfl ⟨by rw [HB.out], hw2⟩
end Go.Proofs.Ytnocdecimcpkfaa
