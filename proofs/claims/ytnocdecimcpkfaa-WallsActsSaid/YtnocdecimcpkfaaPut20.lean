/- Put together: WalJ, WalK, WalL. -/
import Derived.Test.YtnocdecimcpkfaaRows
import Derived.Test.YtnocdecimcpkfaaPut19
import Derived.Test.YtnocdecimcpkfaaPut1
import Derived.Deep.AppendLies
import Derived.WalkKit
import Derived.WalkSpells
import Derived.WalkLawsBesides
import Derived.Laws.Externs
import Derived.Deep.QuietTactic
import Derived.BigQuiet
import Derived.Lib.Hide
import Derived.Handy
import Derived.OwnWalk
import Derived.LoopN
import Derived.RegionTactic
import Derived.Shelf.Spec.SlicesInsert
import Derived.Shelf.RegionOpenPlain
import Derived.Deep.RegionHeld3
namespace Go.Proofs.Ytnocdecimcpkfaa
open Go.RowKit Go.Sort Go.Lib
attribute [local go_sem] rOper rAt rUpon cell_set sg_i64 sg_u64 alloc_cell alloc_frozen
attribute [local go_sem 10000] pt_eql pt_neq wal_eql wal_neq
attribute [local irreducible] rWalk

/-- The row's block is the old one, or new. -/
def Fresh (v v' : Value) (n : Nat) : Prop := ∀ g, v'.ownBlock = some g → v.ownBlock = some g ∨ n ≤ g
theorem append_wl2 {w : World} {ops : Array Oper} {rest : List Oper} {o : Oper} {a : Act} {Q : Exit → Act → World → Prop} (hgd : o.guard = none) (s x : Operand)
    (ho : o.op = .call { callee := .builtin .append, args := #[s, x], argTypes := #[22, 22] })
    (B : Nat) (v : Value) (L : List Wl) (hs : a.eval s = v) (hown : WRow w B v L)
    (bx : Nat) (X : Wl) (hx : a.eval x = .slice (some ⟨bx, 0, none⟩) 1 1) (hbx : Box w bx (cW X) 35) (hn : L.length ≤ 1000000) (hbase : B ≤ w.heap.size)
    (h : ∀ w' v', WRow w' B v' (L ++ [X]) → w.grownBy w' v.ownBlock → Fresh v v' w.heap.size → wpList Try.prog ops Q rest (a.put o.dst v') w') : wpList Try.prog ops Q (o :: rest) a w := by
  obtain ⟨i0, hi, hz0, hz1, hz2⟩ := info_parts info_wall
  refine wpList_append_lies w hgd s x 22 ho B 35 i0 _ 5 40 Try.underlying22 hi hz0 hz1 hz2 rfl (by decide) v L.length _ hs hown ⟨bx, 0, none⟩ 1 1 (cW X) hx rfl ?_ (cW_one X) (by decide) ?_ ?_ hbase _ rfl ?_
  · intro j u hj
    have := hbx.facts.1 j
    rw [hj] at this
    rw [Addr.add_lit, Nat.zero_add]
    exact this
  · unfold maxLen; omega
  · omega
  · intro g cap w' hown' hg hf _
    refine h w' _ ?_ hg (fun g' e => ?_)
    · unfold WRow
      rw [List.length_append, List.length_singleton, List.flatMap_append]
      simpa using hown'
    · simp only [Value.ownBlock, Option.some.injEq] at e
      subst e
      rcases hf with hf | hf
      · exact .inl hf
      · exact .inr (by omega)
set_option maxHeartbeats 1000000 in
theorem ins_end0 (B bx : Nat) (X : Wl) (w : World) (hB : B ≤ w.heap.size) (hbx : Box w bx (cW X) 35) :
    Calls Try.prog 39 #[.slice none 0 0, .int .i64 0, .slice (some ⟨bx, 0, none⟩) 1 1] w fun e w' =>
      ∃ v', e = .returned v' ∧ WRow w' B v' [X] ∧ w.grownBy w' none ∧ Fresh (.slice none 0 0) v' w.heap.size := by
  have hown := WRow.nil0 w B
  go_enter Try.func39, Try.ntmps39
  go_wp2_with (at_builtin; refine append_wl2 rfl _ _ rfl B _ [] rfl hown bx X rfl hbx (Nat.zero_le _) hB ?_; intro w4 v4 hown4 hg4 hf4)
  go_ret
  exact ⟨_, rfl, hown4, hg4, hf4⟩
set_option maxHeartbeats 1000000 in
theorem ins_end (B g n c bx : Nat) (L : List Wl) (X : Wl) (w : World) (hn : L.length = n) (hL : n ≤ 1000000) (hc : n ≤ c) (hown : WRow w B (.slice (some ⟨g, 0, none⟩) n c) L) (hB : B ≤ w.heap.size) (hbx : Box w bx (cW X) 35) :
    Calls Try.prog 39 #[.slice (some ⟨g, 0, none⟩) n c, .int .i64 n, .slice (some ⟨bx, 0, none⟩) 1 1] w fun e w' =>
      ∃ v', e = .returned v' ∧ WRow w' B v' (L ++ [X]) ∧ w.grownBy w' (some g) ∧ Fresh (.slice (some ⟨g, 0, none⟩) n c) v' w.heap.size := by
  have hL2 : L.length ≤ 1000000 := by omega
  have hcap : c ≤ 9223372036854775807 := by
    rcases hown.box with ⟨h, _⟩ | ⟨_, _, _, h, _, _, _, h2, _⟩
    · cases h
    · simp only [Value.slice.injEq] at h; unfold maxLen at h2; omega
  by_cases hcn : c = n
  · subst hcn
    go_enter Try.func39, Try.ntmps39
    go_wp2_with (at_builtin; refine append_wl2 rfl _ _ rfl B _ L rfl hown bx X rfl hbx hL2 hB ?_; intro w4 v4 hown4 hg4 hf4)
    go_ret
    exact ⟨_, rfl, hown4, hg4, hf4⟩
  · go_enter Try.func39, Try.ntmps39
    go_wp2_with (at_builtin; refine append_wl2 rfl _ _ rfl B _ L rfl hown bx X rfl hbx hL2 hB ?_; intro w4 v4 hown4 hg4 hf4)
    go_ret
    exact ⟨_, rfl, hown4, hg4, hf4⟩
/-- slices.Insert of one wall. -/
theorem ins_any (B : Nat) (v : Value) (k bx : Nat) (L : List Wl) (X : Wl) (w : World) (hk : k ≤ L.length) (hL : L.length ≤ 1000000) (hown : WRow w B v L) (hB : B ≤ w.heap.size) (hbx : Box w bx (cW X) 35) (hne : v.ownBlock ≠ some bx) :
    Calls Try.prog 39 #[v, .int .i64 k, .slice (some ⟨bx, 0, none⟩) 1 1] w fun e w' =>
      ∃ v', e = .returned v' ∧ WRow w' B v' (L.take k ++ X :: L.drop k) ∧ w.grownBy w' v.ownBlock ∧ Fresh v v' w.heap.size := by
  have hlen : k ≤ L.length → (L.take k ++ X :: L.drop k).length = L.length + 1 := fun h => by simp only [List.length_append, List.length_cons, List.length_take, List.length_drop]; omega
  rcases hown.box with ⟨rfl, rfl⟩ | ⟨g, cap, tl, rfl, hBg, hg, h1, h2, h3⟩
  · obtain rfl : k = 0 := by simpa using hk
    exact ins_end0 B bx X w hB hbx
  · rcases Nat.eq_or_lt_of_le hk with rfl | hk2
    · rw [List.take_length, List.drop_length]
      exact ins_end B g L.length cap bx L X w rfl hL h1 hown hB hbx
    · rcases Nat.lt_or_ge cap (L.length + 1) with hc | hc
      · refine (ins_grow g L.length cap k bx L X tl w rfl hk2 hc h1 hL hg hbx).mono ?_
        rintro e w' ⟨G, tl', rfl, hgr, hG1, hG2, hG3, hb⟩
        refine ⟨_, rfl, ?_, ⟨hgr.1, hgr.2, hgr.3, hgr.4, fun q hq _ => hgr.5 q hq (by simp)⟩, fun q e => .inr (by simp only [Value.ownBlock, Option.some.injEq] at e; omega)⟩
        have := WRow.of_box hB hb (by rw [hlen hk]; exact hG1) hG2 (by rw [hlen hk]; exact hG3)
        rwa [hlen hk] at this
      · refine (ins_room g L.length cap k bx L X tl w rfl hk2 hc h2 h3 hg hbx (fun e => hne (by rw [e]; rfl))).mono ?_
        rintro e w' ⟨rfl, hgr, hb⟩
        refine ⟨_, rfl, ?_, hgr, fun q e => .inl e⟩
        have := WRow.of_box hBg hb (by rw [hlen hk]; exact hc) h2 (by rw [hlen hk, List.length_drop, h3]; omega)
        rwa [hlen hk] at this
end Go.Proofs.Ytnocdecimcpkfaa

namespace Go.Proofs.Ytnocdecimcpkfaa
open Go.RowKit Go.Sort Go.Lib
attribute [local go_sem] rOper rAt rUpon cell_set sg_i64 sg_u64 alloc_cell alloc_frozen
attribute [local go_sem 10000] pt_eql pt_neq wal_eql wal_neq
attribute [local irreducible] rWalk

theorem step_append_run {P : Program} {ops : Array Oper} {o : Oper} {a : Act} {w : World} {K : Act → World → Prop} {Q : Exit → Act → World → Prop} {E : Prop}
    (hg : o.guard = none) (d x : Operand) (dT sT : TypeId) (hop : o.op = Op.call { callee := Callee.builtin Builtin.append, args := #[d, x], argTypes := #[dT, sT] })
    (v u : Value) (hd : a.eval d = v) (hx : a.eval x = u) {v' : Value} {w' : World} (hr : (Builtin.append_ #[dT, sT] o.type #[v, u]).run P w = .ok v' w') (hK : K (a.put o.dst v') w') :
    if Region.wanted o (yielded ops a.tmps) = true then Oper.wp P o a w K Q else E := by
  have hw : Region.wanted o (yielded ops a.tmps) = true := by simp [Region.wanted, hg]
  rw [if_pos hw]
  unfold Oper.wp
  simp [execOp, hop, resolve, invoke, builtin, hd, hx, hr, Result.andThen]
  exact hK
theorem zero_wl (w : World) : (zeroValue 35).run Try.prog w = .ok (.agg #[.int .i64 0, .int .i64 0, .int .i64 0, .int .i64 0, .int .i64 0]) w := by kernel_rfl
def z5 : List Value := [.int .i64 0, .int .i64 0, .int .i64 0, .int .i64 0, .int .i64 0]
def zN : Nat → List Value
  | 0 => []
  | n + 1 => z5 ++ zN n
theorem zN_len : ∀ n, (zN n).length = n * 5
  | 0 => rfl
  | n + 1 => by rw [zN, List.length_append, zN_len n]; simp [z5]; omega
theorem zN_get : ∀ n i, i < n * 5 → (zN n)[i]? = some (.int .i64 0)
  | 0, i, h => by omega
  | n + 1, i, h => by
    rw [zN]
    by_cases hi : i < 5
    · rw [List.getElem?_append_left (by simpa [z5] using hi)]
      have : i = 0 ∨ i = 1 ∨ i = 2 ∨ i = 3 ∨ i = 4 := by omega
      rcases this with rfl | rfl | rfl | rfl | rfl <;> rfl
    · rw [List.getElem?_append_right (by simp [z5]; omega)]
      exact zN_get n _ (by simp [z5]; omega)
theorem zeros_wl (n : Nat) : (Builtin.zeroCells #[.int .i64 0, .int .i64 0, .int .i64 0, .int .i64 0, .int .i64 0] n).toList = zN n := by
  apply List.ext_getElem?
  intro i
  by_cases h : i < n * 5
  · rw [zN_get n i h, Array.getElem?_toList]
    have : i % 5 = 0 ∨ i % 5 = 1 ∨ i % 5 = 2 ∨ i % 5 = 3 ∨ i % 5 = 4 := by omega
    simp only [Builtin.zeroCells]
    rcases this with e | e | e | e | e <;> simp [h, e]
  · rw [List.getElem?_eq_none (by rw [Array.length_toList, size_zeroCells]; simp; omega), List.getElem?_eq_none (by rw [zN_len]; omega)]
/-- clear(s) of walls in a block of the call's own. -/
theorem clear_run {w : World} (ty : TypeId) (g o n c : Nat) (C : List Value) (hn : 0 < n) (hg : Box w g C 35) (hfit : o + n * 5 ≤ C.length) :
    (Builtin.clear_ #[22] ty #[.slice (some ⟨g, o, none⟩) n c]).run Try.prog w = .ok (.tuple #[]) (w.setRow g (C.take o ++ zN n ++ C.drop (o + n * 5)).toArray) := by
  have hst := run_storeCells_at Try.prog g o 35 (zN n) 0 C.toArray w hg (by rw [zN_len]; simpa using hfit) (by
    intro v hv
    obtain ⟨i, hi, rfl⟩ := List.mem_iff_getElem.1 hv
    have := zN_get n i (by rwa [zN_len] at hi)
    rw [List.getElem?_eq_getElem hi] at this
    simp at this; rw [this]; rfl)
  simp only [Nat.add_zero, zN_len] at hst
  obtain ⟨m, rfl⟩ : ∃ m, n = m + 1 := ⟨n - 1, by omega⟩
  have hz := zeros_wl (m + 1)
  simp [Builtin.clear_, run_underlying Try.underlying22, Value.cells, hz, hst]
/-- append(d, s...) where there is room. -/
theorem room_run {w : World} (ty : TypeId) (g n c : Nat) (a : Addr) (m cs : Nat) (C news : List Value) (hg : Box w g C 35) (hl : news.length = m * 5)
    (hnews : ∀ j u, news[j]? = some u → w.cell? (a.add j) = some u) (h1 : ∀ u ∈ news, u.oneCell' = true) (hroom : n + m ≤ c) (hfit : n * 5 + news.length ≤ C.length) :
    (Builtin.append_ #[22, 22] ty #[.slice (some ⟨g, 0, none⟩) n c, .slice (some a) m cs]).run Try.prog w =
      .ok (.slice (some ⟨g, 0, none⟩) (n + m) c) (w.setRow g (C.take (n * 5) ++ news ++ C.drop (n * 5 + news.length)).toArray) := by
  obtain ⟨i0, hi0, hz0, hzs, hzb⟩ := info_parts info_wall
  have := run_append_room (P := Try.prog) w 22 ty 35 i0 Try.underlying22 hi0 g n c C.toArray hg a m cs news (by rw [hzs]; exact hl) hnews h1 hroom (by rw [hzs]; simpa using hfit)
  rw [hzs] at this
  simpa using this
set_option maxHeartbeats 4000000 in
set_option maxRecDepth 100000 in
theorem del_some (g n c k : Nat) (L : List Wl) (tl : List Value) (w : World) (hn : L.length = n) (hk : k < n) (hc : n ≤ c) (hc2 : c ≤ maxLen) (htl : tl.length = (c - n) * 5)
    (hg : Box w g (L.flatMap cW ++ tl) 35) :
    Calls Try.prog 41 #[.slice (some ⟨g, 0, none⟩) n c, .int .i64 k, .int .i64 ((k : Int) + 1)] w fun e w' =>
      ∃ tl', e = .returned (.slice (some ⟨g, 0, none⟩) (n - 1) c) ∧ w.grownBy w' (some g) ∧ tl'.length = (c - (n - 1)) * 5 ∧ Box w' g ((L.take k ++ L.drop (k + 1)).flatMap cW ++ tl') 35 := by
  have hmx : c ≤ 9223372036854775807 := by unfold maxLen at hc2; omega
  have hkL : k < L.length := by omega
  have hA : ((L.take k).flatMap cW).length = k * 5 := by rw [flatMap_len cW_len, List.length_take]; omega
  have hD : ((L.drop (k + 1)).flatMap cW).length = (n - (k + 1)) * 5 := by rw [flatMap_len cW_len, List.length_drop, hn]
  have hC : L.flatMap cW = (L.take k).flatMap cW ++ (cW L[k] ++ (L.drop (k + 1)).flatMap cW) := by
    rw [← List.flatMap_cons, ← List.flatMap_append, List.getElem_cons_drop hkL, List.take_append_drop]
  have h1D : ∀ v ∈ (L.drop (k + 1)).flatMap cW, v.oneCell' = true := fun u hu => by
    obtain ⟨x, _, hx⟩ := List.mem_flatMap.1 hu
    exact cW_one x u hx
  simp only [List.flatMap_append, List.append_assoc]
  rw [hC] at hg
  simp only [List.append_assoc] at hg
  clear hC
  generalize (L.take k).flatMap cW = A at *
  generalize (L.drop (k + 1)).flatMap cW = D at *
  have hX : (cW L[k]).length = 5 := rfl
  generalize cW L[k] = X at *
  obtain ⟨Y, hY⟩ : ∃ Y, Y = (X ++ D).drop D.length := ⟨_, rfl⟩
  have hYl : Y.length = 5 := by rw [hY, List.length_drop, List.length_append]; omega
  have e1 : (A ++ (X ++ (D ++ tl))).take (k * 5) ++ D ++ (A ++ (X ++ (D ++ tl))).drop (k * 5 + D.length) = A ++ (D ++ (Y ++ tl)) := by
    rw [← hA, List.take_left, List.drop_length_add_append, ← List.append_assoc X D tl, List.drop_append_of_le_length (by rw [List.length_append]; omega), ← hY]; simp only [List.append_assoc]
  have e2 : (A ++ (D ++ (Y ++ tl))).take ((n - 1) * 5) ++ zN 1 ++ (A ++ (D ++ (Y ++ tl))).drop ((n - 1) * 5 + 1 * 5) = A ++ (D ++ (zN 1 ++ tl)) := by
    rw [← List.append_assoc A D, show (n - 1) * 5 = (A ++ D).length by rw [List.length_append]; omega, List.take_left, List.drop_length_add_append, show 1 * 5 = Y.length by omega, List.drop_left]; simp only [List.append_assoc]
  obtain ⟨ad, had, hsrc⟩ : ∃ ad : Addr, (if c = k + 1 then some (⟨g, 0, none⟩ : Addr) else some ⟨g, (k + 1) * 5, none⟩) = some ad ∧ ∀ W, Box W g (A ++ (X ++ (D ++ tl))) 35 → ∀ j u, D[j]? = some u → W.cell? (ad.add j) = some u := by
    by_cases h : c = k + 1
    · refine ⟨⟨g, 0, none⟩, by simp [h], fun W _ j u hu => ?_⟩
      have h0 : D = [] := List.eq_nil_of_length_eq_zero (by rw [hD]; omega)
      rw [h0] at hu; simp at hu
    · refine ⟨⟨g, (k + 1) * 5, none⟩, by simp [h], fun W hW j u hu => ?_⟩
      rw [Addr.add_lit, hW.facts.1, ← List.append_assoc, show (k + 1) * 5 = (A ++ X).length by rw [List.length_append]; omega, List.getElem?_append_right (by omega), Nat.add_sub_cancel_left, List.getElem?_append_left (List.getElem?_eq_some_iff.1 hu).1]
      exact hu
  have hap := fun (W : World) (h : Box W g (A ++ (X ++ (D ++ tl))) 35) (ty : TypeId) (cs : Nat) => room_run ty g k c ad (n - (k + 1)) cs _ D h hD (hsrc W h) h1D (by omega) (by simp only [List.length_append]; omega)
  rw [e1, show k + (n - (k + 1)) = n - 1 by omega] at hap
  have hcl := fun (W : World) (h : Box W g (A ++ (D ++ (Y ++ tl))) 35) (ty : TypeId) (cs : Nat) => clear_run ty g ((n - 1) * 5) 1 cs _ (by omega) h (by simp only [List.length_append]; omega)
  rw [e2] at hcl
  obtain ⟨R1, hR1⟩ : ∃ R : Array Value, R = (A ++ (D ++ (Y ++ tl))).toArray := ⟨_, rfl⟩
  obtain ⟨R2, hR2⟩ : ∃ R : Array Value, R = (A ++ (D ++ (zN 1 ++ tl))).toArray := ⟨_, rfl⟩
  rw [← hR1] at hap
  rw [← hR2] at hcl
  have hset1 : ∀ W : World, Box W g (A ++ (X ++ (D ++ tl))) 35 → Box (W.setRow g R1) g (A ++ (D ++ (Y ++ tl))) 35 := fun W h => by rw [hR1]; exact h.setRow
  have hset2 : ∀ W : World, Box W g (A ++ (D ++ (Y ++ tl))) 35 → Box (W.setRow g R2) g (A ++ (D ++ (zN 1 ++ tl))) 35 := fun W h => by rw [hR2]; exact h.setRow
  have hgrow : ∀ (W : World) (R : Array Value), w.grownBy W (some g) → w.grownBy (W.setRow g R) (some g) := fun W R ⟨a1, a2, a3, a4, a5⟩ =>
    ⟨a1, a2, a3, by simpa [World.setRow] using a4, fun q hq hq2 => by rw [setRow_other _ _ _ _ (fun e => hq2 (by rw [e]))]; exact a5 q hq hq2⟩
  have hgr0 : w.grownBy w.drew (some g) := ⟨rfl, rfl, rfl, Nat.le_refl _, fun _ _ _ => rfl⟩
  have HF := Lib.hid (And.intro hset1 (And.intro hset2 hgrow))
  have H0 := Lib.hid (And.intro hg hgr0)
  obtain ⟨q, hq⟩ : ∃ q, n - 1 = q := ⟨_, rfl⟩
  rw [hq] at hcl hap ⊢
  have hq1 : (q : Int) ≤ (n : Int) := by omega
  have hq2 : n - q = 1 := by omega
  have hq3 : ¬ (c = q) := by omega
  have hq4 : q ≤ n := by omega
  have hq5 : q ≤ c := by omega
  have hq6 : (n : Int) ≤ (c : Int) := by omega
  have hcl2 := hcl _ (hset1 _ hg.drew)
  have hcl3 := hcl _ (hset1 _ hg.drew).drew
  have hap2 := hap _ hg.drew
  have HT := Lib.hid (show (zN 1 ++ tl).length = (c - q) * 5 by rw [List.length_append, zN_len, htl]; omega)
  have hw1 : IntKind.i64.wrap ((k : Int) + 1) = (k : Int) + 1 := by rw [IntKind.wrap_i64]; omega
  have hb1 : (0 : Int) ≤ (k : Int) + 1 := by omega
  have htn : ((k : Int) + 1).toNat = k + 1 := by omega
  have hb3 : (k : Int) + 1 ≤ (n : Int) := by omega
  have hb4 : (k : Int) ≤ (k : Int) + 1 := by omega
  have hb5 : k ≤ n := by omega
  have hb6 : (k : Int) ≤ (n : Int) := by omega
  have hb7 : ¬ ((k : Int) = (k : Int) + 1) := by omega
  have hb8 : (k : Int) ≤ (c : Int) := by omega
  have hb9 : ¬ (n = k) := by omega
  have mixed : Try.prog.follows .mixedOrders = true := by kernel_rfl
  clear hR1 hR2 hset1 hset2 hgrow hgr0 hg e1 e2 hA hD h1D hap hcl hsrc htl hX hYl hY hc2 hkL hn hq
  go_enter Try.func41, Try.ntmps41
  go_wp2
  go_region_law_o (refine step_append_run rfl _ _ 22 22 rfl (.slice (some ⟨g, 0, none⟩) k c) (.slice (some ad) (n - (k + 1)) (c - (k + 1))) (by simp [Act.eval, Act.put]) (by simp [Act.eval, Act.put]) (hap2 _ _) ?_)
  go_wp2
  go_ret
  exact ⟨_, rfl, HF.out.2.2 _ _ (HF.out.2.2 _ _ H0.out.2), HT.out, HF.out.2.1 _ (HF.out.1 _ H0.out.1.drew)⟩
/-- slices.Delete of one wall. -/
theorem del_any (B : Nat) (v : Value) (k : Nat) (L : List Wl) (w : World) (hk : k < L.length) (hown : WRow w B v L) :
    Calls Try.prog 41 #[v, .int .i64 k, .int .i64 ((k : Int) + 1)] w fun e w' =>
      ∃ v', e = .returned v' ∧ WRow w' B v' (L.take k ++ L.drop (k + 1)) ∧ w.grownBy w' v.ownBlock ∧ Fresh v v' w.heap.size := by
  have hlen : (L.take k ++ L.drop (k + 1)).length = L.length - 1 := by simp only [List.length_append, List.length_take, List.length_drop]; omega
  rcases hown.box with ⟨rfl, rfl⟩ | ⟨g, cap, tl, rfl, hBg, hg, h1, h2, h3⟩
  · simp at hk
  · refine (del_some g L.length cap k L tl w rfl hk h1 h2 h3 hg).mono ?_
    rintro e w' ⟨tl', rfl, hgr, ht, hb⟩
    refine ⟨_, rfl, ?_, hgr, fun q e => .inl e⟩
    have := WRow.of_box hBg hb (by rw [hlen]; omega) h2 (by rw [hlen]; exact ht)
    rwa [hlen] at this
end Go.Proofs.Ytnocdecimcpkfaa

namespace Go.Proofs.Ytnocdecimcpkfaa
open Go.RowKit Go.Sort
attribute [local go_sem] rOper rAt rUpon cell_set sg_i64 sg_u64 alloc_cell alloc_frozen
attribute [local go_sem 10000] pt_eql pt_neq wal_eql wal_neq
attribute [local irreducible] rWalk

/-- What is kept but for some blocks. -/
structure Frm (w w' : World) (p : Nat → Prop) : Prop where
  os : w'.os = w.os
  tape : w'.tape = w.tape
  output : w'.output = w.output
  size : w.heap.size ≤ w'.heap.size
  block : ∀ k, k < w.heap.size → ¬ p k → w'.heap[k]? = w.heap[k]?
theorem Frm.of_below {w w' : World} {p : Nat → Prop} (h : Below w.heap.size w w') : Frm w w' p := ⟨h.1, h.2, h.3, h.4, fun k hk _ => h.block k hk⟩
theorem Frm.of_grown {w w' : World} {p : Nat → Prop} {r : Option Nat} (h : w.grownBy w' r) (hr : ∀ g, r = some g → p g) : Frm w w' p := ⟨h.1, h.2, h.3, h.4, fun k hk hn => h.block k hk (fun e => hn (hr k e.symm))⟩
theorem Frm.trans {w w' w2 : World} {p : Nat → Prop} (h : Frm w w' p) (h2 : Frm w' w2 p) : Frm w w2 p := ⟨h2.os.trans h.os, h2.tape.trans h.tape, h2.output.trans h.output, Nat.le_trans h.size h2.size, fun k hk hn => (h2.block k (Nat.lt_of_lt_of_le hk h.size) hn).trans (h.block k hk hn)⟩
/-- As trans, where what is changed the second time was not there the first time, or is among what may be changed. -/
theorem Frm.trans2 {w w' w2 : World} {p q : Nat → Prop} (h : Frm w w' p) (h2 : Frm w' w2 q) (hq : ∀ k, q k → k < w.heap.size → p k) : Frm w w2 p := ⟨h2.os.trans h.os, h2.tape.trans h.tape, h2.output.trans h.output, Nat.le_trans h.size h2.size, fun k hk hn => (h2.block k (Nat.lt_of_lt_of_le hk h.size) (fun hh => hn (hq k hh hk))).trans (h.block k hk hn)⟩
theorem Frm.setCell {w w' : World} {p : Nat → Prop} (h : Frm w w' p) (q : Addr) (hq : p q.block) (v : Value) : Frm w (w'.setCell q v) p :=
  ⟨h.os, h.tape, h.output, by simpa using h.size, fun k hk hn => by
    have hne : ¬ q.block = k := fun e => hn (e ▸ hq)
    simp only [World.setCell, Array.getElem?_modify, if_neg hne]
    exact h.block k hk hn⟩
theorem Frm.below {w w' : World} {p : Nat → Prop} {n : Nat} (h : Frm w w' p) (hp : ∀ k, p k → n ≤ k) (hn : n ≤ w.heap.size) : Below n w w' := ⟨h.os, h.tape, h.output, h.size, fun k hk => h.block k (by omega) (fun e => by have := hp k e; omega)⟩
theorem Frm.box {w w' : World} {p : Nat → Prop} {b : Nat} {cs : List Value} {T : TypeId} (h : Frm w w' p) (hb : Box w b cs T) (hn : ¬ p b) : Box w' b cs T := by
  have hl := hb.lt
  unfold Box at *
  rw [h.block b hl hn]; exact hb
theorem Frm.row {w w' : World} {p : Nat → Prop} {B : Nat} {v : Value} {L : List Wl} (h : Frm w w' p) (hr : WRow w B v L) (hn : ∀ g, v.ownBlock = some g → ¬ p g) : WRow w' B v L := by
  refine ⟨hr.1, ?_⟩
  rcases hr.2 with h' | ⟨g, cap, cur, h0, h1, h2, h3⟩
  · exact .inl h'
  · refine .inr ⟨g, cap, cur, h0, h1, ?_, h3⟩
    have hl : g < w.heap.size := (Array.getElem?_eq_some_iff.1 h2).1
    rw [h.block g hl (hn g (by rw [h0]; rfl))]; exact h2
/-- A set in memory. -/
structure SetAt (w : World) (sb : Nat) (v : Value) (L : List Wl) : Prop where
  box : Box w sb [v] 64
  row : WRow w 0 v L
  ne : v.ownBlock ≠ some sb
  le : L.length ≤ 1000000
  ris : Ris L
  good : ∀ x ∈ L, GoodW x
theorem SetAt.rd {w : World} {sb : Nat} {v : Value} {L : List Wl} (S : SetAt w sb v L) : ∃ a c, v = .slice a L.length c ∧ SetRd w sb a c L.length L := by
  obtain ⟨a, c, h1, h2, h3⟩ := S.row.row
  refine ⟨a, c, h1, h1 ▸ S.box, h2, rfl, S.le, ?_, h3, fun e => ?_, S.ris, S.good⟩
  · rcases S.row.box with ⟨e, e2⟩ | ⟨_, _, _, e, _, _, h, _⟩
    · rw [e2]; exact Nat.zero_le _
    · rw [h1] at e; simp only [Value.slice.injEq] at e; omega
  · rcases S.row.box with ⟨_, e2⟩ | ⟨_, _, _, e2, _⟩
    · exact e2
    · rw [h1, e] at e2; simp at e2
theorem WRow.drew {w : World} {B : Nat} {v : Value} {L : List Wl} (h : WRow w B v L) : WRow w.drew B v L := h
theorem WRow.form {w : World} {B : Nat} {v : Value} {L : List Wl} (h : WRow w B v L) : ∃ a n c, v = .slice a n c := by
  obtain ⟨a, c, h1, _⟩ := h.row
  exact ⟨a, _, c, h1⟩
theorem SetAt.rdx {w : World} {sb : Nat} {L : List Wl} (v : Value) (c : Nat) (a0 : Option Addr) (hv : v = .slice a0 L.length c) (S : SetAt w sb v L) : SetRd w sb a0 c L.length L := by
  obtain ⟨a, c', h1, h2⟩ := S.rd
  rw [hv] at h1
  simp only [Value.slice.injEq, true_and] at h1
  obtain ⟨rfl, rfl⟩ := h1
  exact h2
theorem SetAt.keep {w w' : World} {sb : Nat} {v : Value} {L : List Wl} {p : Nat → Prop} (S : SetAt w sb v L) (h : Frm w w' p) (h1 : ¬ p sb) (h2 : ∀ g, v.ownBlock = some g → ¬ p g) : SetAt w' sb v L :=
  ⟨h.box S.box h1, h.row S.row h2, S.ne, S.le, S.ris, S.good⟩
theorem SetAt.ext {w w' : World} {sb : Nat} {v : Value} {L : List Wl} {n : Nat} (S : SetAt w sb v L) (hb : Below n w w') (hn : n = w.heap.size) : SetAt w' sb v L :=
  ⟨S.box.ext hb hn, S.row.ext hb hn, S.ne, S.le, S.ris, S.good⟩
/-- What a set's blocks are. -/
def Foot (sb : Nat) (v : Value) (k : Nat) : Prop := k = sb ∨ v.ownBlock = some k
theorem mkOk_good {X : Wl} (h : unm X = false) : GoodW X := by
  unfold unm at h
  simp only [Bool.or_eq_false_iff, Bool.not_eq_false', decide_eq_true_eq] at h
  obtain ⟨h1, h2⟩ := h
  have h3 := h1
  unfold mkOk mkK at h3
  simp only [Bool.and_eq_true, Bool.or_eq_true, decide_eq_true_eq, Bool.not_eq_true', decide_eq_false_iff_not] at h3
  obtain ⟨hk, hab, ha, hb⟩ := h3
  unfold mkW at h2
  rw [if_pos h1] at h2
  have hA : lo2 X.A X.B = X.A := congrArg Wl.A h2
  refine ⟨ha, hb, ?_, hk⟩
  have hn : ¬ cmpP X.B X.A < 0 := fun e => by unfold lo2 at hA; rw [if_pos e] at hA; exact hab hA.symm
  have h0 : cmpP X.A X.B ≠ 0 := fun e => hab (cmpP_eq0.1 e)
  rw [cmpP_neg] at hn
  omega
theorem good_unm {X : Wl} (h : GoodW X) : unm X = false := by
  have hab : X.A ≠ X.B := fun e => by have := h.ab; rw [e, cmpP_eq0.2 rfl] at this; omega
  have hk : mkOk X.A X.B X.K = true := by unfold mkOk mkK; simp [h.va, h.vb, hab]; exact h.k
  have hn : ¬ cmpP X.B X.A < 0 := by have := h.ab; rw [cmpP_neg]; omega
  unfold unm mkW
  rw [hk]
  simp [lo2, hi2, hn]
theorem good_lo {X : Wl} (h : GoodW X) : lo2 X.A X.B = X.A ∧ hi2 X.A X.B = X.B := by
  have hn : ¬ cmpP X.B X.A < 0 := by have := h.ab; rw [cmpP_neg]; omega
  exact ⟨by unfold lo2; rw [if_neg hn], by unfold hi2; rw [if_neg hn]⟩
def addE (L : List Wl) (X : Wl) : Int := if unm X = true then 2 else clashW L X.A X.B
def addL (L : List Wl) (X : Wl) : List Wl := if unm X = false ∧ clashW L X.A X.B = 0 then L.take (posW L X.A X.B) ++ X :: L.drop (posW L X.A X.B) else L
theorem Frm.refl (w : World) (p : Nat → Prop) : Frm w w p := ⟨rfl, rfl, rfl, Nat.le_refl _, fun _ _ _ => rfl⟩
theorem add_end {w w4 wq : World} {sb : Nat} {v v' : Value} {L L' : List Wl} {o : Obj} (S : SetAt w sb v L) (hw : Below w.heap.size w w4) (hgr : (w4.alloc o).drew.grownBy wq v.ownBlock) (hf : Fresh v v' (w4.alloc o).drew.heap.size) (hown : WRow wq 0 v' L') :
    Box (wq.setCell ⟨sb, 0, none⟩ v') sb [v'] 64 ∧ WRow (wq.setCell ⟨sb, 0, none⟩ v') 0 v' L' ∧ Frm w (wq.setCell ⟨sb, 0, none⟩ v') (Foot sb v) ∧ Fresh v v' (w.heap.size + 1) ∧ v'.ownBlock ≠ some sb := by
  have hs := hw.size
  have hsb := S.box.lt
  have hsz : (w4.alloc o).drew.heap.size = w4.heap.size + 1 := by show (w4.alloc o).heap.size = _; simp
  have hne : v'.ownBlock ≠ some sb := fun e => by
    rcases hf _ e with h | h
    · exact S.ne h
    · rw [hsz] at h; omega
  have BQ : Box wq sb [v] 64 := Box.grownBy ((S.box.ext hw rfl).old o).drew hgr (fun e => S.ne e.symm)
  have f1 : Frm w wq (Foot sb v) := (Frm.of_below ((hw.alloc hs o).drew)).trans (Frm.of_grown hgr fun g e => .inr e)
  refine ⟨BQ.set 0 v', ((Frm.refl wq (· = sb)).setCell ⟨sb, 0, none⟩ rfl v').row hown (fun g e => fun h => hne (by rw [e, h])), f1.setCell ⟨sb, 0, none⟩ (.inl rfl) v', fun g e => ?_, hne⟩
  rcases hf g e with h | h
  · exact .inl h
  · rw [hsz] at h; exact .inr (by omega)
theorem add_u (s : Value) (X : Wl) (hu : unm X = true) (w : World) :
    Calls Try.prog 10 #[s, .agg #[.int .i64 X.A.x, .int .i64 X.A.y, .int .i64 X.B.x, .int .i64 X.B.y, .int .i64 X.K]] w fun e w' => e = .returned (.int .i64 2) ∧ Below w.heap.size w w' := by
  go_enter Try.func10, Try.ntmps10
  have c1 := unm_any X
  rw [hu] at c1
  go_wp2_with fail
  refine at_call fun W1 hW => ?_
  have Bx : Box W1 (w.heap.size) [.int .i64 X.A.x, .int .i64 X.A.y, .int .i64 X.B.x, .int .i64 X.B.y, .int .i64 X.K] 35 := by rw [hW]; exact Box.new rfl
  have hw : Below w.heap.size w W1 := by rw [hW]; go_grown
  clear hW
  refine (c1 _).mono ?_
  rintro e w2 ⟨rfl, hb⟩
  replace Bx := Bx.ext hb rfl
  replace hw := hw.trans (hb.mono hw.size)
  clear hb
  obtain ⟨xx, yx, zx, vx⟩ := Bx.facts
  go_wp2
  go_ret
  exact ⟨rfl, by have hl := hw.size; go_grown⟩

theorem add_nil (X : Wl) (hu : unm X = false) (w : World) :
    Calls Try.prog 10 #[.pointer none, .agg #[.int .i64 X.A.x, .int .i64 X.A.y, .int .i64 X.B.x, .int .i64 X.B.y, .int .i64 X.K]] w fun e w' => e = .returned (.int .i64 2) ∧ Below w.heap.size w w' := by
  go_enter Try.func10, Try.ntmps10
  have c1 := unm_any X
  rw [hu] at c1
  have c2 := clash_nil X.A X.B
  go_wp2_with fail
  refine at_call fun W1 hW => ?_
  have Bx : Box W1 (w.heap.size) [.int .i64 X.A.x, .int .i64 X.A.y, .int .i64 X.B.x, .int .i64 X.B.y, .int .i64 X.K] 35 := by rw [hW]; exact Box.new rfl
  have hw : Below w.heap.size w W1 := by rw [hW]; go_grown
  clear hW
  refine (c1 _).mono ?_
  rintro e w2 ⟨rfl, hb⟩
  replace Bx := Bx.ext hb rfl
  replace hw := hw.trans (hb.mono hw.size)
  clear hb
  obtain ⟨xx, yx, zx, vx⟩ := Bx.facts
  go_wp2_with fail
  refine (c2 _).mono ?_
  rintro e w3 ⟨rfl, hb⟩
  clear xx yx zx vx
  replace Bx := Bx.ext hb rfl
  replace hw := hw.trans (hb.mono hw.size)
  clear hb
  obtain ⟨xx, yx, zx, vx⟩ := Bx.facts
  go_wp2
  go_ret
  exact ⟨rfl, by have hl := hw.size; go_grown⟩

theorem add_c (sb : Nat) (a0 : Option Addr) (c n : Nat) (L : List Wl) (X : Wl) (z : Int) (hu : unm X = false) (hc : clashW L X.A X.B = z) (hz : z ≠ 0) (w : World) (S : SetRd w sb a0 c n L) :
    Calls Try.prog 10 #[.pointer (some ⟨sb, 0, none⟩), .agg #[.int .i64 X.A.x, .int .i64 X.A.y, .int .i64 X.B.x, .int .i64 X.B.y, .int .i64 X.K]] w fun e w' => e = .returned (.int .i64 z) ∧ Below w.heap.size w w' := by
  go_enter Try.func10, Try.ntmps10
  have hsb := S.box.lt
  have c1 := unm_any X
  rw [hu] at c1
  have hd : (z != 0) = true := by simpa using hz
  go_wp2_with fail
  refine at_call fun W1 hW => ?_
  have Bx : Box W1 (w.heap.size) [.int .i64 X.A.x, .int .i64 X.A.y, .int .i64 X.B.x, .int .i64 X.B.y, .int .i64 X.K] 35 := by rw [hW]; exact Box.new rfl
  have hw : Below w.heap.size w W1 := by rw [hW]; go_grown
  clear hW
  refine (c1 _).mono ?_
  rintro e w2 ⟨rfl, hb⟩
  replace Bx := Bx.ext hb rfl
  replace hw := hw.trans (hb.mono hw.size)
  clear hb
  obtain ⟨xx, yx, zx, vx⟩ := Bx.facts
  go_wp2_with fail
  have c2 := clash_any sb a0 c n L X.A X.B w2 (S.ext hw rfl)
  rw [hc] at c2
  refine (c2).mono ?_
  rintro e w3 ⟨rfl, hb⟩
  clear xx yx zx vx
  replace Bx := Bx.ext hb rfl
  replace hw := hw.trans (hb.mono hw.size)
  clear hb
  obtain ⟨xx, yx, zx, vx⟩ := Bx.facts
  go_wp2
  go_ret
  exact ⟨rfl, by have hl := hw.size; go_grown⟩

set_option maxRecDepth 100000 in
set_option maxHeartbeats 4000000 in
theorem add_ok (sb : Nat) (a0 : Option Addr) (c : Nat) (v : Value) (L : List Wl) (hv : v = .slice a0 L.length c) (X : Wl) (hu : unm X = false) (hc : clashW L X.A X.B = 0) (hA : lo2 X.A X.B = X.A) (hB : hi2 X.A X.B = X.B) (m : Nat) (hm0 : posW L X.A X.B = m) (w : World) (S : SetAt w sb v L) :
    Calls Try.prog 10 #[.pointer (some ⟨sb, 0, none⟩), .agg #[.int .i64 X.A.x, .int .i64 X.A.y, .int .i64 X.B.x, .int .i64 X.B.y, .int .i64 X.K]] w fun e w' => ∃ v', e = .returned (.int .i64 0) ∧ Box w' sb [v'] 64 ∧ WRow w' 0 v' (L.take m ++ X :: L.drop m) ∧ Frm w w' (Foot sb v) ∧ Fresh v v' (w.heap.size + 1) ∧ v'.ownBlock ≠ some sb := by
  go_enter Try.func10, Try.ntmps10
  have hsb := S.box.lt
  have c1 := unm_any X
  rw [hu] at c1
  go_wp2_with fail
  refine at_call fun W1 hW => ?_
  have Bx : Box W1 (w.heap.size) [.int .i64 X.A.x, .int .i64 X.A.y, .int .i64 X.B.x, .int .i64 X.B.y, .int .i64 X.K] 35 := by rw [hW]; exact Box.new rfl
  have hw : Below w.heap.size w W1 := by rw [hW]; go_grown
  clear hW
  refine (c1 _).mono ?_
  rintro e w2 ⟨rfl, hb⟩
  replace Bx := Bx.ext hb rfl
  replace hw := hw.trans (hb.mono hw.size)
  clear hb
  obtain ⟨xx, yx, zx, vx⟩ := Bx.facts
  go_wp2_with fail
  have SS := S.rdx v c a0 hv
  have c2 := clash_any sb a0 c L.length L X.A X.B w2 (SS.ext hw rfl)
  rw [hc] at c2
  refine (c2).mono ?_
  rintro e w3 ⟨rfl, hb⟩
  clear xx yx zx vx
  replace Bx := Bx.ext hb rfl
  replace hw := hw.trans (hb.mono hw.size)
  clear hb
  obtain ⟨xx, yx, zx, vx⟩ := Bx.facts
  go_wp2_with fail
  have c3 := find_any sb a0 c L.length L X.A X.B w3 (SS.ext hw rfl)
  rw [hA, hB, hm0] at c3
  generalize fnd L m X.A X.B = bb at *
  refine (c3).mono ?_
  rintro e w4 ⟨rfl, hb⟩
  clear xx yx zx vx
  replace Bx := Bx.ext hb rfl
  replace hw := hw.trans (hb.mono hw.size)
  clear hb
  have hown := S.row.ext hw rfl
  have BS := S.box.ext hw rfl
  have hne := S.ne
  have hle := S.le
  have hm := (pos_spec S.ris X.A X.B).2
  rw [hm0] at hm
  obtain ⟨xx, yx, zx, vx⟩ := Bx.facts
  obtain ⟨xS, yS, zS, vS⟩ := BS.facts
  go_wp2_with fail
  have nxb : v.ownBlock ≠ some w.heap.size := fun e => by have := (S.row.lt _ e).2; omega
  have nnb : v.ownBlock ≠ some w4.heap.size := fun e => by have := (S.row.lt _ e).2; have := hw.size; omega
  have hz := hw.size
  clear c1 c2 c3 SS hv
  go_region_with (go_at_call 39; refine (ins_any 0 v m w4.heap.size L X _ hm hle (by first | exact (hown.alloc _).drew | exact hown.alloc _) (Nat.zero_le _) (by first | exact Box.drew (Box.new rfl) | exact Box.new rfl) nnb).mono ?_; rintro e wq ⟨v', rfl, hown', hgr, hfr⟩; have BQ := Box.grownBy (BS.old _).drew hgr (fun e => hne e.symm); obtain ⟨q0, q1, q2, q3⟩ := BQ.facts; obtain ⟨aq, nq, cq, rfl⟩ := hown'.form)
  all_goals
    go_wp2
    go_ret
    obtain ⟨r1, r2, r3, r4, r5⟩ := add_end S hw hgr hfr hown'
    exact ⟨_, rfl, r1, r2, r3, r4, r5⟩

theorem ins_mem {L : List Wl} {X x : Wl} {m : Nat} : x ∈ L.take m ++ X :: L.drop m ↔ x = X ∨ x ∈ L := by
  rw [List.mem_append, List.mem_cons, or_left_comm, ← List.mem_append, List.take_append_drop]
theorem add_any (sb : Nat) (v : Value) (L : List Wl) (X : Wl) (hL : L.length < 1000000) (w : World) (S : SetAt w sb v L) :
    Calls Try.prog 10 #[.pointer (some ⟨sb, 0, none⟩), .agg #[.int .i64 X.A.x, .int .i64 X.A.y, .int .i64 X.B.x, .int .i64 X.B.y, .int .i64 X.K]] w fun e w' => ∃ v', e = .returned (.int .i64 (addE L X)) ∧ SetAt w' sb v' (addL L X) ∧ Frm w w' (Foot sb v) ∧ Fresh v v' (w.heap.size + 1) := by
  unfold addE addL
  cases hu : unm X with
  | true =>
    rw [if_pos rfl, if_neg (by simp)]
    refine (add_u _ X hu w).mono ?_
    rintro e w' ⟨rfl, hb⟩
    exact ⟨v, rfl, S.ext hb rfl, Frm.of_below hb, fun g e => .inl e⟩
  | false =>
    rw [if_neg (by simp)]
    have hg := mkOk_good hu
    obtain ⟨hA, hB⟩ := good_lo hg
    by_cases hz : clashW L X.A X.B = 0
    · rw [if_pos ⟨rfl, hz⟩, hz]
      obtain ⟨a0, c, hv, _⟩ := S.rd
      refine (add_ok sb a0 c v L hv X hu hz hA hB _ rfl w S).mono ?_
      rintro e w' ⟨v', rfl, h1, h2, h3, h4, h5⟩
      obtain ⟨p1, p2⟩ := pos_spec S.ris X.A X.B
      refine ⟨v', rfl, ⟨h1, h2, h5, ?_, ?_, ?_⟩, h3, h4⟩
      · simp only [List.length_append, List.length_cons, List.length_take, List.length_drop]; omega
      · have hK : ∀ x ∈ L, 0 < x.K := fun x hx => by have := (S.good x hx).k; omega
        have hf : fnd L (posW L X.A X.B) X.A X.B = false := by
          cases hf : fnd L (posW L X.A X.B) X.A X.B with
          | false => rfl
          | true =>
            obtain ⟨hm, hfi, _⟩ := fnd_true S.ris hf hK
            have := kindW_true S.ris hf hK hm
            have h0 := hK _ (List.getElem_mem hm)
            have hz2 := hz
            unfold clashW at hz2
            rw [hA, hB] at hz2
            split at hz2
            · rw [if_neg (by omega)] at hz2; cases hz2
            · cases hz2
        have hno := fnd_false S.ris hf hK
        rw [List.find?_eq_none] at hno
        have hne : ∀ x ∈ L, x.A ≠ X.A ∨ x.B ≠ X.B := fun x hx => by
          have := hno x hx
          rw [isW_iff] at this
          by_cases h : x.A = X.A
          · exact .inr fun h2 => this ⟨h, h2⟩
          · exact .inl h
        have key : ∀ x, (x.A ≠ X.A ∨ x.B ≠ X.B) → (cmpW x X < 0 ↔ cmpW x ⟨X.A, X.B, 0⟩ < 0) := fun x hx => by
          rw [cmpW_lt, cmpW_lt]
          constructor
          · rintro (h | ⟨h, h2 | ⟨h2, h3⟩⟩)
            · exact .inl h
            · exact .inr ⟨h, .inl h2⟩
            · rcases hx with hx | hx
              · exact absurd h hx
              · exact absurd h2 hx
          · rintro (h | ⟨h, h2 | ⟨h2, h3⟩⟩)
            · exact .inl h
            · exact .inr ⟨h, .inl h2⟩
            · rcases hx with hx | hx
              · exact absurd h hx
              · exact absurd h2 hx
        refine (rising_insert wholeW S.ris p2 (fun i hi => (key _ (hne _ (List.getElem_mem _))).2 ((p1 i (by omega)).2 hi)) (fun i hi h2 => ?_)).1
        have n1 : ¬ cmpW L[i] X < 0 := fun h => by have := (p1 i h2).1 ((key _ (hne _ (List.getElem_mem _))).1 h); omega
        have n2 : cmpW L[i] X ≠ 0 := fun h => by
          have e := cmpW_eq0.1 h
          rcases hne _ (List.getElem_mem h2) with h | h
          · exact h (by rw [e])
          · exact h (by rw [e])
        omega
      · intro x hx
        rcases ins_mem.1 hx with rfl | hx
        · exact hg
        · exact S.good x hx
    · rw [if_neg (fun h => hz h.2)]
      obtain ⟨a0, c, hv, R⟩ := S.rd
      refine (add_c sb a0 c L.length L X _ hu rfl hz w R).mono ?_
      rintro e w' ⟨rfl, hb⟩
      exact ⟨v, rfl, S.ext hb rfl, Frm.of_below hb, fun g e => .inl e⟩
end Go.Proofs.Ytnocdecimcpkfaa
