/- Put together: MesM, MesN, Cpt, MesO, MesP, MesQ, GeoD, GeoE. -/
import Derived.Test.YtjkfakaehjmnbaaGreatRows
import Derived.Test.YtjkfakaehjmnbaaGreatPmf6
import Derived.Test.YtjkfakaehjmnbaaGreatPmf13
import Derived.Test.YtjkfakaehjmnbaaGreatPmf1
import Derived.WalkKit
import Derived.WalkSpells
import Derived.WalkLawsBesides
import Derived.Laws.Externs
import Derived.Deep.QuietTactic
import Derived.BigQuiet
import Derived.Lib.Hide
import Derived.Handy
import Derived.OwnWalk
import Derived.Deep.RegionHeld3
import Derived.Deep.AppendLies
import Derived.LoopN
import Derived.RegionTactic
import Derived.Lib.SliceRun
import Derived.Test.YtjkfakaehjmnbaaGreatPmf9
import Derived.Maps.RangeWalk
import Derived.Maps.OwnSet
set_option maxRecDepth 100000
set_option maxHeartbeats 8000000
namespace Go.Proofs.YtjkfakaehjmnbaaGreat
open Go.RowKit Go.Sort
attribute [local go_sem] rOper rAt rUpon cell_set sg_i64 sg_u64 alloc_cell alloc_frozen
attribute [local go_sem 10000] pt_eql pt_neq tri_eql
attribute [local irreducible] rWalk
def cnrs (L : List Tri3) : List Pt := L.flatMap fun T => [T.A, T.B, T.C]
theorem zH4 : ∀ L : List Tri3, (cnrs L).length = 3 * L.length
 | [] => rfl
 | T :: L => by have := zH4 L; unfold cnrs at *; rw [List.flatMap_cons, List.length_append, this]; simp; omega
theorem rcorners_any (a0 : Option Addr) (c0 n : Nat) (L : List Tri3) (hL : Hid (L.length = n)) (hn : n ≤ 100000) (w : World) (h0 : RowAt cT 6 w a0 L) :
    Calls Tryz.prog 43 #[.slice a0 n c0] w fun e w' => ∃ (M : List Pt) (a : Option Addr) (cap : Nat), e = .returned (.slice a M.length cap) ∧ RowAt cP 2 w' a M ∧ Rising cmpP M ∧ (∀ p, p ∈ M ↔ p ∈ cnrs L) ∧ Below w.heap.size w w' := by
 go_enter Tryz.func43, Tryz.ntmps43
 go_wp2
 go_loopw [3, 4] (fun vo vi wr => ∃ k : Nat, vi = .int .i64 k ∧ k ≤ n ∧ wr.ownsRow w.heap.size 30 2 vo (cnrs (L.take k)).length ((cnrs (L.take k)).flatMap cP) ∧ Below w.heap.size w wr) (fun _ vi _ => n - (intOf vi).toNat)
 case atStart => exact ⟨0, rfl, Nat.zero_le _, World.ownsRow_nil _ _ _ _, Below.refl _ _⟩
 case round =>
  obtain ⟨k, rfl, hk, hown, hw⟩ := hrel;by_cases hlt : k < n
  case neg =>
   obtain ⟨a, cap, rfl, _, hr⟩ := zAr zCz hown;rw [List.take_of_length_le (by rw [hL.out]; omega)] at hr;have HL := Lib.hid (show L.take k = L from List.take_of_length_le (by rw [hL.out]; omega));have hlen := Lib.hid (show (cnrs (L.take k)).length = 3 * n by rw [HL.out, zH4, hL.out]);have hcl := Lib.hid (show (cnrs L).length = 3 * n by rw [zH4, hL.out]);rw [hlen.out];go_wp2_with fail;refine (rsortP_any _ _ _ _ hcl (by omega) _ hr).mono ?_;rintro e w2 ⟨M, a2, cap2, rfl, h1, h2, h3, hb⟩;go_wp2
   go_ret
   exact ⟨M, a2, cap2, rfl, h1, h2, h3, (upB hw hb)⟩
  case pos =>
   have hlk : k < L.length := hL.out ▸ hlt;have HT := Lib.hid (show cnrs (L.take (k + 1)) = cnrs (L.take k) ++ [L[k].A, L[k].B, L[k].C] by rw [List.take_succ_eq_append_getElem hlk]; unfold cnrs; rw [List.flatMap_append]; rfl);have hle : (cnrs (L.take k)).length ≤ 1000000 := by rw [zH4, List.length_take]; omega
   obtain ⟨ad, A, ea, eA, hA0⟩ := h0.six hlk;have hA := hA0.ee hw;generalize L[k] = T at *
   obtain ⟨t0, t1, t2, t3, t4, t5⟩ := hA.2;obtain ⟨i0, hi0, hz0, hz1, hz2⟩ := info_parts zDw;have hAb : A.block < w.heap.size := hA0.1;have ag : u3.ownBlock ≠ some A.block := fun e => by have := (hown.lt _ e).1; omega
   have HB := Lib.hid hw.size;have HO := Lib.hid hown;have hAw : A.block < wr.heap.size := hA.1;go_wp2
   go_region_held3 (fun w' => w'.cell? A = some (.int .i64 T.A.x) ∧ w'.cell? ⟨A.block, A.off + 1, none⟩ = some (.int .i64 T.A.y) ∧ w'.cell? ⟨A.block, A.off + 2, none⟩ = some (.int .i64 T.B.x) ∧ w'.cell? ⟨A.block, A.off + 3, none⟩ = some (.int .i64 T.B.y) ∧ w'.cell? ⟨A.block, A.off + 4, none⟩ = some (.int .i64 T.C.x) ∧ w'.cell? ⟨A.block, A.off + 5, none⟩ = some (.int .i64 T.C.y))
    (first
     | go_keep
     | (go_split_ands
        refine ⟨?_, ?_, ?_, ?_, ?_, ?_⟩
        ·(rw [hgrow.cell_far A (by simp; omega) (Ne.symm ag)]; assumption)
        ·(rw [hgrow.cell_far ⟨A.block, A.off + 1, none⟩ (by simp; omega) (Ne.symm ag)]; assumption)
        ·(rw [hgrow.cell_far ⟨A.block, A.off + 2, none⟩ (by simp; omega) (Ne.symm ag)]; assumption)
        ·(rw [hgrow.cell_far ⟨A.block, A.off + 3, none⟩ (by simp; omega) (Ne.symm ag)]; assumption)
        ·(rw [hgrow.cell_far ⟨A.block, A.off + 4, none⟩ (by simp; omega) (Ne.symm ag)]; assumption)
        ·(rw [hgrow.cell_far ⟨A.block, A.off + 5, none⟩ (by simp; omega) (Ne.symm ag)]; assumption)))
    ((refine step_append_lies _ (by rfl) _ _ _ (by rfl) w.heap.size 30 i0 _ 2 16 Tryz.underlying79 hi0 hz0 hz1 hz2 rfl (by decide) u3 (cnrs (L.take k)).length ((cnrs (L.take k)).flatMap cP) (by rfl) ((hown.alloc _).drew)
        ⟨wr.heap.size, 0, none⟩ 3 3 (cT T) (by rfl) (by rfl) (World.news_of_block (cs := (cT T).toArray) (t := 30) (fr := (0, 0)) (heap_alloc_new wr _)) (zL4 T)
        (by omega) (by unfold maxLen; omega) (by omega) (by have := HB.out; simp; omega) (wr.heap.size + 1) (by simp) ?_; intro gg cap w1 hown1 hgrow hat hlt1))
   go_wp2;have hw4 : Below w.heap.size w w1 := ((hw.alloc HB.out (.cells (cT T).toArray 30)).drew).grown hgrow (by have := HB.out; show w.heap.size ≤ (wr.alloc _).heap.size; simp; omega) (fun q hq => (HO.out.lt q hq).1);have hl2 := Lib.hid (show (cnrs (L.take (k + 1))).length = (cnrs (L.take k)).length + 3 by rw [HT.out]; simp);have hown4 : w1.ownsRow w.heap.size 30 2 (.slice (some ⟨gg, 0, none⟩) ((cnrs (L.take k)).length + 3) cap) (cnrs (L.take (k + 1))).length ((cnrs (L.take (k + 1))).flatMap cP) := by
    rw [hl2.out, HT.out, List.flatMap_append]
    simpa [cT, cP] using hown1
   rw [← ea]
   go_roundw
   case rel => exact ⟨k + 1, by go_num, by omega, hown4, hw4⟩
   case measure => simp [intOf]; omega
theorem zeros_pt (n : Nat) : (Builtin.zeroCells #[.int .i64 0, .int .i64 0] n).toList = List.replicate (n * 2) (.int .i64 0) := by
 simp only [Builtin.zeroCells];apply List.ext_getElem
 ·simp
 ·intro i h1 h2;simp at h1;have : i % 2 = 0 ∨ i % 2 = 1 := by omega
  rcases this with h | h <;> simp [h]
theorem run_clear_pts (w : World) (ty : TypeId) (b o n c : Nat) (hn : 0 < n)
    (hc : ∀ j, j < n * 2 → (w.cell? ⟨b, o + j, none⟩).isSome = true) (hf : ∀ j, j < n * 2 → w.frozen? ⟨b, o + j, none⟩ = false) :
    (Builtin.clear_ #[79] ty #[.slice (some ⟨b, o, none⟩) n c]).run Tryz.prog w = .ok (.tuple #[]) (w.setCells b o (List.replicate (n * 2) (.int .i64 0))) := by
 have hst := run_storeCells_cells (P := Tryz.prog) b o (List.replicate (n * 2) (.int .i64 0)) 0 w (by simpa using hc) (by simpa using hf) (by intro v hv'; rw [List.eq_of_mem_replicate hv']; rfl);simp only [Nat.add_zero] at hst;obtain ⟨m, rfl⟩ : ∃ m, n = m + 1 := ⟨n - 1, by omega⟩;have hz := zeros_pt (m + 1);simp [Builtin.clear_, run_underlying Tryz.underlying79, Value.cells, hz, hst]
theorem zDg {w : World} {g : Nat} {S : List Pt} {tl : List Value} (h : Box w g (S.flatMap cP ++ tl) 30) (k : Nat) : RowAt cP 2 w (some ⟨g, 0, none⟩) (S.take k) := fun j x hj => by
 have hj2 : j < k ∧ S[j]? = some x := by
  rw [List.getElem?_take] at hj;split at hj
  ·exact ⟨by assumption, hj⟩
  ·cases hj
 have hl := (List.getElem?_eq_some_iff.1 hj2.2);refine ⟨_, rfl, h.lt, fun i u hu => ?_⟩;have hi : i < 2 := (List.getElem?_eq_some_iff.1 hu).1;rw [Addr.add_lit, Addr.add_lit, h.f.1, Nat.zero_add, List.getElem?_append_left (by rw [zB4 zCz]; have := hl.1; omega), zBb zCz S j i x hj2.2 hi];exact hu
end Go.Proofs.YtjkfakaehjmnbaaGreat
namespace Go.Proofs.YtjkfakaehjmnbaaGreat
section
variable {α : Type} [DecidableEq α] {c : α → α → Int}
structure Cpt (c : α → α → Int) (L : List α) (r : Nat) (M : List α) : Prop where
 rise : Rising c M
 mem : ∀ p, p ∈ M ↔ p ∈ L.take r
 last : ∀ (h : 0 < r) (h2 : r ≤ L.length), M.getLast? = some (L[r - 1]'(by omega))
 len : M.length ≤ r
omit [DecidableEq α] in
theorem rising_snoc (W : Whole c) {M : List α} {x y : α} (h : Rising c M) (hl : M.getLast? = some y) (hxy : c y x < 0) : Rising c (M ++ [x]) := by
 unfold Rising at *;rw [List.pairwise_append];refine ⟨h, by simp, fun a ha b hb => ?_⟩;simp at hb; subst hb;rw [List.getLast?_eq_some_iff] at hl;obtain ⟨N, rfl⟩ := hl;rw [List.pairwise_append] at h;rcases List.mem_append.1 ha with ha | ha
 ·exact W.trans (h.2.2 a ha y (by simp)) hxy
 ·simp at ha; subst ha; exact hxy
omit [DecidableEq α] in
theorem Cpt.start {L : List α} (h : 0 < L.length) : Cpt c L 1 (L.take 1) := by
 cases L with
 | nil => simp at h
 | cons x L => exact ⟨by simp [Rising], by simp, by simp, by simp⟩
omit [DecidableEq α] in
theorem Cpt.next (W : Whole c) {L M : List α} {r : Nat} (h : Cpt c L r M) (ho : InOrder c L) (h0 : 0 < r) (hr : r < L.length) (hne : L[r] ≠ L[r - 1]'(by omega)) : Cpt c L (r + 1) (M ++ [L[r]]) := by
 have hl := h.last h0 (by omega);have hle : c (L[r - 1]'(by omega)) L[r] ≤ 0 := by
  unfold InOrder at ho;rw [List.pairwise_iff_getElem] at ho;exact ho _ _ _ _ (by omega)
 have hlt : c (L[r - 1]'(by omega)) L[r] < 0 := by
  have : c (L[r - 1]'(by omega)) L[r] ≠ 0 := fun e => hne (W.eq0.1 e).symm;omega
 refine ⟨rising_snoc W h.rise hl hlt, fun p => ?_, fun _ _ => by simp, by have := h.len; simp; omega⟩;rw [List.take_succ_eq_append_getElem hr, List.mem_append, List.mem_append, h.mem p]
omit [DecidableEq α] in
theorem Cpt.same {L M : List α} {r : Nat} (h : Cpt c L r M) (h0 : 0 < r) (hr : r < L.length) (he : L[r] = L[r - 1]'(by omega)) : Cpt c L (r + 1) M := by
 refine ⟨h.rise, fun p => ?_, fun _ _ => ?_, by have := h.len; omega⟩
 ·rw [List.take_succ_eq_append_getElem hr, List.mem_append, h.mem p];constructor
  ·exact .inl
  ·rintro (hp | hp)
   ·exact hp
   ·simp at hp;rw [hp, he];exact List.mem_take_iff_getElem.2 ⟨r - 1, by omega, rfl⟩
 ·rw [h.last h0 (by omega)]; simp [he]
omit [DecidableEq α] in
theorem Cpt.all (W : Whole c) {L : List α} (ho : InOrder c L) : ∀ r, r ≤ L.length → 0 < r → (∀ (i : Nat) (h0 : 0 < i) (_ : i < r) (h2 : i < L.length), L[i] ≠ L[i - 1]'(by omega)) → Cpt c L r (L.take r)
 | 0, _, h, _ => absurd h (by omega)
 | 1, h, _, _ => Cpt.start (by omega)
 | r + 2, h, _, hd => by
  have ih := Cpt.all W ho (r + 1) (by omega) (by omega) (fun i h0 h1 h2 => hd i h0 (by omega) h2);have := ih.next W ho (by omega) (by omega) (hd (r + 1) (by omega) (by omega) (by omega))
  rwa [← List.take_succ_eq_append_getElem (by omega)] at this
end
open Go.RowKit Go.Sort
attribute [local go_sem] rOper rAt rUpon cell_set sg_i64 sg_u64 alloc_cell alloc_frozen
attribute [local go_sem 10000] pt_eql pt_neq tri_eql
attribute [local irreducible] rWalk
theorem zCg (b : Nat) : ∀ (l : List Value) (o : Nat) (w : World), w.grownBy (w.setCells b o l) (some b)
 | [], _, w => zC8 _ _
 | v :: l, o, w => by
  rw [World.setCells];have h1 : w.grownBy (w.setCell ⟨b, o, none⟩ v) (some b) := ⟨rfl, rfl, rfl, by simp, fun i _ hne => Below.heap_setCell w ⟨b, o, none⟩ v i (fun e => hne (by rw [e]))⟩;exact zA9 h1 (zCg b l (o + 1) _)
theorem compact_any (g cap n : Nat) (L : List Pt) (tl : List Value) (hL : Hid (L.length = n)) (hn : n ≤ 1000000) (hcap : n ≤ cap) (hcap2 : cap ≤ maxLen) (ho : Hid (InOrder cmpP L)) (w : World) (hb : Box w g (L.flatMap cP ++ tl) 30) :
    Calls Tryz.prog 82 #[.slice (some ⟨g, 0, none⟩) n cap] w fun e w' => ∃ M : List Pt, e = .returned (.slice (some ⟨g, 0, none⟩) M.length cap) ∧ RowAt cP 2 w' (some ⟨g, 0, none⟩) M ∧ Rising cmpP M ∧ (∀ p, p ∈ M ↔ p ∈ L) ∧ w.grownBy w' (some g) := by
 by_cases h2 : n < 2
 ·have HR := Lib.hid (zDg hb n);have e : L.take n = L := List.take_of_length_le (by rw [hL.out]; omega);rw [e] at HR;have hr : Hid (Rising cmpP L) := Lib.hid (by
   have := hL.out
   match L, this with
   | [], _ => simp [Rising]
   | [x], _ => simp [Rising]
   | _ :: _ :: _, h => simp at h; omega)
  clear e hb
  go_enter Tryz.func82, Tryz.ntmps82
  go_wp2
  go_ret
  exact ⟨L, by rw [hL.out]; rfl, HR.out, hr.out, fun p => Iff.rfl, zC8 _ _⟩
 ·go_enter Tryz.func82, Tryz.ntmps82
  go_wp2;unfold maxLen at hcap2
  go_loopw [3] (fun vk wr => ∃ q : Nat, vk = .int .i64 ((q + 1 : Nat) : Int) ∧ q + 1 ≤ n ∧ Hid (∀ (i : Nat) (h0 : 0 < i) (_ : i < q + 1) (h2 : i < L.length), L[i] ≠ L[i - 1]'(by omega)) ∧ Below w.heap.size w wr) (fun vk _ => n - (intOf vk).toNat)
  case atStart => exact ⟨0, rfl, by omega, Lib.hid (fun i h0 h1 h2 => by omega), Below.refl _ _⟩
  case round =>
   obtain ⟨q, rfl, hq, hap, hw⟩ := hrel;by_cases hlt : q + 1 < n
   case neg =>
    have HC := Lib.hid (Cpt.all wholeP ho.out n (by rw [hL.out]; omega) (by omega) (fun i h0 h1 h2 => hap.out i h0 (by omega) h2));have e : L.take n = L := List.take_of_length_le (by rw [hL.out]; omega);rw [e] at HC;have HR := Lib.hid (zDg (hb.ee hw) n);rw [e] at HR;clear e;go_wp2
    go_ret
    exact ⟨L, by rw [hL.out]; rfl, HR.out, HC.out.rise, fun p => by rw [HC.out.mem p, List.take_of_length_le (by rw [hL.out]; omega)], zA7 hw _⟩
   case pos =>
    have l1 : q + 1 < L.length := hL.out ▸ hlt;have l0 : q < L.length := by omega
    have hb1 := hb.ee hw;obtain ⟨u0, u1, _, _⟩ := zD0 hb1 l1;obtain ⟨v0, v1, _, _⟩ := zD0 hb1 l0;have e1 : IntKind.i64.wrap (q : Int) = q := by rw [IntKind.wrap_i64]; omega
    have l2 : q < n := by omega
    by_cases hx : L[q + 1] = L[q]
    case neg =>
     have hp : peqI L[q + 1].x L[q + 1].y L[q].x L[q].y = false := by rw [← Bool.not_eq_true, zBk]; exact hx
     have HA := Lib.hid (show ∀ (i : Nat) (h0 : 0 < i) (_ : i < q + 1 + 1) (h2 : i < L.length), L[i] ≠ L[i - 1]'(by omega) from fun i h0 h1 h2 => by
      by_cases e : i = q + 1
      ·subst e; exact hx
      ·exact hap.out i h0 (by omega) h2)
     clear hx hap hb1;go_wp2
     go_quiet (fail)
     have hw2 : Below w.heap.size w (wr.drewN nq) := hw.trans ⟨rfl, rfl, rfl, Nat.le_refl _, fun _ _ => rfl⟩;go_wp2
     go_roundw
     case rel => exact ⟨q + 1, by go_num, by omega, HA, hw2⟩
     case measure => simp [intOf]; omega
    case pos =>
     have hp : peqI L[q + 1].x L[q + 1].y L[q].x L[q].y = true := zBk.2 hx;have HC := Lib.hid (((Cpt.all wholeP ho.out (q + 1) (by omega) (by omega) (fun i h0 h1 h2 => hap.out i h0 h1 h2)).same (by omega) l1 (by simpa using hx)));have hsl : ∀ w', (Instr.slice 79 (.slice (some ⟨g, 0, none⟩) n cap) (some (.int .i64 ((q : Int) + 1))) none none).run Tryz.prog w' = .ok (.slice (some ⟨g, (q + 1) * 2, none⟩) (n - (q + 1)) (cap - (q + 1))) w' := fun w' => by
      have := zG0 (some ⟨g, 0, none⟩) n cap (q + 1) (by omega) w';rw [if_neg (by omega)] at this
      simpa [Addr.add_lit] using this
     obtain ⟨N2, hN2⟩ : ∃ N2, n - (q + 1) = N2 := ⟨_, rfl⟩;obtain ⟨C2, hC2⟩ : ∃ C2, cap - (q + 1) = C2 := ⟨_, rfl⟩;rw [hN2, hC2] at hsl;have HN := Lib.hid hN2;clear hN2 hC2 hx hap;go_wp2
     go_quiet (fail)
     have hw2 : Below w.heap.size w (wr.drewN nq) := hw.trans ⟨rfl, rfl, rfl, Nat.le_refl _, fun _ _ => rfl⟩;have hb2 := hb.ee hw2;clear u0 u1 v0 v1 hp hb1;go_wp2
     go_loopw [3, 5] (fun vk v2 wr => ∃ (k p : Nat) (S M : List Pt), vk = .int .i64 k ∧ v2 = .int .i64 ((p + 1 : Nat) : Int) ∧ p + 1 ≤ N2 ∧ 1 ≤ k ∧ Hid (Cpt cmpP L (q + 1 + (p + 1)) M) ∧ Hid (S.length = n) ∧ Hid (S.take k = M) ∧ Hid (M.length = k) ∧ k < q + 1 + (p + 1) ∧ Hid (∀ (j : Nat) (h1 : j < L.length) (h2 : j < S.length), q + 1 + (p + 1) ≤ j + 1 → S[j] = L[j]) ∧ Box wr g (S.flatMap cP ++ tl) 30 ∧ w.grownBy wr (some g)) (fun _ v2 _ => N2 - (intOf v2).toNat)
     case atStart => exact ⟨q + 1, 0, L, L.take (q + 1), rfl, rfl, by have := HN.out; omega, by omega, HC, hL, Lib.hid rfl, Lib.hid (by rw [List.length_take]; omega), by omega, Lib.hid (fun j h1 h2 _ => rfl), hb2, zA7 hw2 _⟩
     case round =>
      clear hb2 hw2 hw HC;obtain ⟨k, p, S, M, rfl, rfl, hp2, hk1, hC, hS, hST, hMk, hkr, hSj, hbS, hg⟩ := hrel;have hSl := hS.out;have hnN := HN.out;by_cases hlp : p + 1 < N2
      case neg =>
       have hr : q + 1 + (p + 1) = n := by omega
       have hkn : k < n := by omega
       have hkc : k < cap := by omega
       have HF := Lib.hid hC.out;have hs2 : ∀ w', (Instr.slice 79 (.slice (some ⟨g, 0, none⟩) n cap) (some (.int .i64 (k : Int))) none none).run Tryz.prog w' = .ok (.slice (some ⟨g, k * 2, none⟩) (n - k) (cap - k)) w' := fun w' => by
        have := zG0 (some ⟨g, 0, none⟩) n cap k (by omega) w';rw [if_neg (by omega)] at this
        simpa [Addr.add_lit] using this
       have hs3 : ∀ w', (Instr.slice 79 (.slice (some ⟨g, 0, none⟩) n cap) none (some (.int .i64 (k : Int))) none).run Tryz.prog w' = .ok (.slice (some ⟨g, 0, none⟩) k cap) w' := fun w' => run_upto_pt _ n cap k (by omega) w';have hf := hbS.f;have hcl : ∀ ty, (Builtin.clear_ #[79] ty #[.slice (some ⟨g, k * 2, none⟩) (n - k) (cap - k)]).run Tryz.prog wr = .ok (.tuple #[]) (wr.setCells g (k * 2) (List.replicate ((n - k) * 2) (.int .i64 0))) := fun ty =>
        run_clear_pts wr ty g (k * 2) (n - k) (cap - k) (by omega) (fun j hj => by rw [hf.1, List.getElem?_append_left (by rw [zB4 zCz, hSl]; omega), List.getElem?_eq_getElem (by rw [zB4 zCz, hSl]; omega)]; rfl) (fun j hj => hf.2.1 _)
       have HR := Lib.hid (show RowAt cP 2 (wr.setCells g (k * 2) (List.replicate ((n - k) * 2) (.int .i64 0))) (some ⟨g, 0, none⟩) M by
        have h1 := zDg hbS k;rw [hST.out] at h1;intro j x hj;obtain ⟨ad, e, _, h3⟩ := h1 j x hj;cases e
        have hjl := (List.getElem?_eq_some_iff.1 hj).1;refine ⟨_, rfl, by rw [zEg]; exact hbS.lt, fun i u hu => ?_⟩;have hi : i < 2 := (List.getElem?_eq_some_iff.1 hu).1;have h4 := h3 i u hu;rw [Addr.add_lit, Addr.add_lit] at h4 ⊢;rw [zEo g _ _ _ _ (by have := hMk.out; omega)];exact h4)
       have HG := Lib.hid (show w.grownBy (wr.setCells g (k * 2) (List.replicate ((n - k) * 2) (.int .i64 0))) (some g) from zA9 hg (zCg g _ _ _));clear hf hSl hnN hbS hg hC;go_wp2
       go_ret
       exact ⟨M, by rw [hMk.out]; rfl, HR.out, HF.out.rise, fun x => by rw [HF.out.mem x, List.take_of_length_le (by rw [hL.out]; omega)], HG.out⟩
      case pos =>
       have hr : q + 1 + (p + 1) < n := by omega
       have lr : q + 1 + (p + 1) < L.length := hL.out ▸ hr;have lr0 : q + 1 + p < L.length := by omega
       obtain ⟨u0, u1, _, _⟩ := zD0 hbS (j := q + 1 + (p + 1)) (by omega);obtain ⟨v0, v1, _, _⟩ := zD0 hbS (j := q + 1 + p) (by omega);rw [hSj.out _ lr (by omega) (by omega), show (q + 1 + (p + 1)) * 2 = (q + 1) * 2 + (p + 1) * 2 by omega] at u0 u1;rw [hSj.out _ lr0 (by omega) (by omega), show (q + 1 + p) * 2 = (q + 1) * 2 + p * 2 by omega] at v0 v1;obtain ⟨y0, y1, d0, d1, f0, f1⟩ : ∃ y0 y1, wr.cell? ⟨g, k * 2, none⟩ = some y0 ∧ wr.cell? ⟨g, k * 2 + 1, none⟩ = some y1 ∧ wr.frozen? ⟨g, k * 2, none⟩ = false ∧ wr.frozen? ⟨g, k * 2 + 1, none⟩ = false := ⟨_, _, zD0 hbS (j := k) (by omega)⟩;have e1 : IntKind.i64.wrap (p : Int) = p := by rw [IntKind.wrap_i64]; omega
       have l2 : p < N2 := by omega
       have hkn : k < n := by omega
       have HB := Lib.hid hbS;have HG := Lib.hid hg;have HSl := Lib.hid hSl;by_cases hx : L[q + 1 + (p + 1)] = L[q + 1 + p]
       ·have hp : peqI L[q + 1 + (p + 1)].x L[q + 1 + (p + 1)].y L[q + 1 + p].x L[q + 1 + p].y = true := zBk.2 hx;have HC := Lib.hid (hC.out.same (by omega) lr hx);have HJ := Lib.hid (show ∀ (j : Nat) (h1 : j < L.length) (h2 : j < S.length), q + 1 + (p + 1 + 1) ≤ j + 1 → S[j] = L[j] from fun j h1 h2 h3 => hSj.out j h1 h2 (by omega));generalize L[q + 1 + (p + 1)] = s1 at *
        generalize L[q + 1 + p] = s0 at *
        clear hx hSl hnN hbS hg hC hSj d0 d1 f0 f1;go_wp2
        go_quiet (fail)
        have hdr : Below wr.heap.size wr (wr.drewN nq) := ⟨rfl, rfl, rfl, Nat.le_refl _, fun _ _ => rfl⟩;go_wp2
        go_roundw
        case rel => exact ⟨k, p + 1, S, M, rfl, by go_num, by omega, by omega, HC, hS, hST, hMk, by omega, HJ, HB.out.ee hdr, zAb HG.out hdr⟩
        case measure => simp [intOf]; omega
       ·have hp : peqI L[q + 1 + (p + 1)].x L[q + 1 + (p + 1)].y L[q + 1 + p].x L[q + 1 + p].y = false := by rw [← Bool.not_eq_true, zBk]; exact hx
        have HC := Lib.hid (hC.out.next wholeP ho.out (by omega) lr hx);have HJ := Lib.hid (show ∀ (j : Nat) (h1 : j < L.length) (h2 : j < (S.set k L[q + 1 + (p + 1)]).length), q + 1 + (p + 1 + 1) ≤ j + 1 → (S.set k L[q + 1 + (p + 1)])[j] = L[j] from fun j h1 h2 h3 => by
         rw [List.getElem_set_ne (by omega)];exact hSj.out j h1 (by simpa using h2) (by omega))
        have HST := Lib.hid (show (S.set k L[q + 1 + (p + 1)]).take (k + 1) = M ++ [L[q + 1 + (p + 1)]] by
         rw [List.take_succ_eq_append_getElem (by simp; omega), List.take_set_of_le (Nat.le_refl _), hST.out, List.getElem_set_self])
        have HMk := Lib.hid (show (M ++ [L[q + 1 + (p + 1)]]).length = k + 1 by rw [List.length_append, hMk.out]; rfl);have HSS := Lib.hid (show (S.set k L[q + 1 + (p + 1)]).length = n by rw [List.length_set, hSl]);generalize L[q + 1 + (p + 1)] = s1 at *
        generalize L[q + 1 + p] = s0 at *
        clear hx hSl hnN hbS hg hC hSj;go_wp2
        go_quiet (fail)
        have hdr : Below wr.heap.size wr (wr.drewN nq) := ⟨rfl, rfl, rfl, Nat.le_refl _, fun _ _ => rfl⟩;have HB2 := Lib.hid (zHr (HB.out.ee hdr) (j := k) (by have := HSl.out; omega) s1);have HG2 := Lib.hid (zA9 (zAb HG.out hdr) (zCg g [.int .i64 s1.x, .int .i64 s1.y] (k * 2) (wr.drewN nq)));go_wp2
        go_roundw
        case rel => exact ⟨k + 1, p + 1, S.set k s1, M ++ [s1], by go_num, by go_num, by omega, by omega, HC, HSS, HST, HMk, by omega, HJ, HB2.out, HG2.out⟩
        case measure => simp [intOf]; omega
theorem append_ptO {w : World} {ops : Array Oper} {rest : List Oper} {o : Oper} {a : Act} {Q : Exit → Act → World → Prop} (hgd : o.guard = none) (s x : Operand)
    (ho : o.op = .call { callee := .builtin .append, args := #[s, x], argTypes := #[79, 79] })
    (B : Nat) (v : Value) (L : List Pt) (hs : a.eval s = v) (hown : w.ownsRow B 30 2 v L.length (L.flatMap cP))
    (bx : Nat) (p : Pt) (hx : a.eval x = .slice (some ⟨bx, 0, none⟩) 1 1) (hbx : Box w bx (cP p) 30) (hn : L.length ≤ 1000000) (hbase : B ≤ w.heap.size)
    (h : ∀ w' v', w'.ownsRow B 30 2 v' (L ++ [p]).length ((L ++ [p]).flatMap cP) → w.grownBy w' v.ownBlock → v' ≠ .slice none 0 0 → wpList Tryz.prog ops Q rest (a.put o.dst v') w') : wpList Tryz.prog ops Q (o :: rest) a w := by
 obtain ⟨i0, hi, hz0, hz1, hz2⟩ := info_parts zDw;refine wpList_append_own w hgd s x 79 ho B 30 i0 _ 2 16 Tryz.underlying79 hi hz0 hz1 hz2 rfl (by decide) v L.length _ hs hown ⟨bx, 0, none⟩ 1 1 (cP p) hx rfl ?_ (cP_one p) ?_ ?_ hbase ?_
 ·intro j u hj;have := hbx.f.1 j;rw [hj] at this;rw [Addr.add_lit, Nat.zero_add];exact this
 ·unfold maxLen; omega
 ·omega
 ·intro v' w' hown' hg hnil;refine h w' v' ?_ hg (fun e => by have := (hnil.1 e).2; omega);rw [List.length_append, List.length_singleton, List.flatMap_append]
  simpa using hown'
theorem box_of_row {w : World} {g : Nat} {cur : Array Value} {L : List Pt} (hb : w.heap[g]? = some (.cells cur 30 (0, 0))) (h : RowAt cP 2 w (some ⟨g, 0, none⟩) L) :
    ∃ tl, Box w g (L.flatMap cP ++ tl) 30 := by
 refine ⟨cur.toList.drop (L.length * 2), ?_⟩;unfold Box;rw [hb];have e : cur.toList.take (L.length * 2) = L.flatMap cP := by
  apply List.ext_getElem?;intro t;by_cases ht : t < L.length * 2
  ·have hj : t / 2 < L.length := by omega
   rw [List.getElem?_take_of_lt ht];have e2 := zBb zCz L (t / 2) (t % 2) L[t / 2] (List.getElem?_eq_getElem hj) (by omega);rw [show t / 2 * 2 + t % 2 = t by omega] at e2;rw [e2];obtain ⟨ad, e3, _, h3⟩ := h (t / 2) L[t / 2] (List.getElem?_eq_getElem hj);cases e3
   have hlt : t % 2 < (cP L[t / 2]).length := by rw [zCz]; omega
   have h4 := h3 (t % 2) _ (List.getElem?_eq_getElem hlt);rw [Addr.add_lit, Addr.add_lit] at h4;simp only [World.cell?, hb, Option.isSome_none, Bool.false_eq_true, if_false] at h4;rw [show 0 + t / 2 * 2 + t % 2 = t by omega] at h4;rw [Array.getElem?_toList, h4, List.getElem?_eq_getElem hlt]
  ·rw [List.getElem?_eq_none (by rw [List.length_take]; omega), List.getElem?_eq_none (by rw [zB4 zCz]; omega)]
 rw [← e, List.take_append_drop]
theorem sortP_box (B : Nat) (g cap : Nat) (L : List Pt) (hL : L.length ≤ 3000000) (w : World) (h : w.ownsRow B 30 2 (.slice (some ⟨g, 0, none⟩) L.length cap) L.length (L.flatMap cP)) :
    Calls Tryz.prog 80 #[.slice (some ⟨g, 0, none⟩) L.length cap, .func (.func 81) #[] #[]] w fun e w' => e = .returned (.tuple #[]) ∧ w.grownBy w' (some g) ∧ ∃ tl, Box w' g ((srt cmpP L).flatMap cP ++ tl) 30 := by
 obtain ⟨hH, hg⟩ := zDx zCz h;have hc := AnyQ.slices_SortFunc_total sortPt 2 Tryz.isAgg30 Tryz.sizeOf30 cP zCz cP_one cmpP wholeP.swo 81 #[] g 0 cap L.toArray w enterP (cmpLaysP g 0 _ w) hH hg (by simp; omega) wholeP.one
 change Calls Tryz.prog 80 _ _ _ at hc
 rw [show L.toArray.size = L.length by simp] at hc;rcases h.2 with ⟨h0, _⟩ | ⟨g', cap', cur, h0, hB, hb, h1, h2, h3, h4⟩
 ·cases h0
 ·simp only [Value.slice.injEq, Option.some.injEq, Addr.mk.injEq, and_true, true_and] at h0;obtain ⟨e1, e3⟩ := h0;subst e1 e3;refine hc.mono fun e w' ⟨he, n, os, hw⟩ => ⟨he, ?_, ?_⟩
  ·rw [hw]; exact zC1 _
  ·have hr := zDc (L := srt cmpP L) zCz (zFh (n := n) (os := os) (d' := (srt cmpP L).toArray) hH hg (by simp [srt])) (Nat.lt_of_lt_of_le hg (zC1 (c := cP) (k := 2) _).size);have hbl : w'.heap[g]? = some (.cells (putCells id 0 (flatK cP 2 (srt cmpP L).toArray) cur) 30 (0, 0)) := by
    rw [hw];show (grow (putRow id (Sort.ahead w n) g 0 (flatK cP 2 (srt cmpP L).toArray)) os).heap[g]? = _;rw [heap_grow_old _ _ (by simpa using hg)];simp [putRow, mapBlock, Sort.ahead, Array.getElem?_modify, hb, onCells]
   rw [hw] at hbl ⊢;exact box_of_row hbl hr
def froms (E : Es) : List Pt := E.map fun e => e.1.1
theorem zG6 (mb b : Nat) (E : Es) (hE : E.length ≤ 1000000) (w : World) (Bm : Box w mb [.map (some b)] 98) (Hm : HoldsMap eW eT okW w b E) :
    Calls Tryz.prog 38 #[.pointer (some ⟨mb, 0, none⟩)] w fun e w' => ∃ (M : List Pt) (a : Option Addr) (cap : Nat), e = .returned (.slice a M.length cap) ∧ RowAt cP 2 w' a M ∧ Rising cmpP M ∧ (∀ p, p ∈ M ↔ p ∈ froms E) ∧ Below w.heap.size w w' := by
 obtain ⟨i0, hi, hz0, hz1, hz2⟩ := info_parts zDw;have Fm := Bm.f
 go_enter Tryz.func38, Tryz.ntmps38
 go_wp2_with (first | (at_len; refine zFt _ rfl _ rfl kvM rfl Hm ?_) | (at_make; refine wpList_make_own _ rfl _ _ 79 rfl w.heap.size 30 i0 _ 2 Tryz.underlying79 hi hz0 hz1 .i64 .i64 _ E.length rfl rfl rfl (by rw [hz2]; omega) (by unfold maxLen; omega) (Nat.le_refl _) ?_; intro w0 own0 hg0; have Bm0 := Bm.ext (zCk hg0) rfl; have Fn := Bm0.f) | (at_range; refine zB7 _ rfl _ rfl kvM rfl (Hm.ext (zCk hg0) rfl) ?_))
 intro w1 HR0 hw1 _;have hw01 := (zCk hg0).trans (hw1.mono hg0.size);have own1 := own0.kept (zA7 hw1 none) (.inr (by simp [Value.ownBlock]));have hr0 := Lib.hid hg0.size;clear Fm Fn Bm0 own0 hw1 hg0;go_wp2
 go_loopw [3] (fun v wr => ∃ D R : Es, Hid ((D ++ R).Perm E) ∧ Hid (v ≠ .slice none 0 0) ∧ wr.ownsRow w.heap.size 30 2 v (froms D).length ((froms D).flatMap cP) ∧ Ranging eW eT okW wr b w0.heap.size E R ∧ Below w.heap.size w wr) (fun _ wr => wr.rangeLeft b w0.heap.size)
 case atStart => exact ⟨[], E, Lib.hid (by simp), Lib.hid (by simp), own1, HR0, hw01⟩
 case round =>
  clear HR0 hw01 own1;obtain ⟨D, R, hD, hnn, hown, HR, hw⟩ := hrel;go_wp2_with (at_next; refine zBe _ rfl _ rfl rfl HR ?_ ?_)
  ·intro hR;subst hR;have hp0 : (froms D).Perm (froms E) := List.Perm.map _ (by simpa using hD.out : D.Perm E);have hle : (froms D).length ≤ 1000000 := by rw [hp0.length_eq]; unfold froms; rw [List.length_map]; exact hE
   have hown2 := hown.2;rcases hown2 with ⟨e0, _⟩ | ⟨g, cap, cur, rfl, hB, hb, h1, h2, h3, h4⟩
   ·exact absurd e0 hnn.out
   ·have HS := Lib.hid (zAo (c := cmpP) (froms D));have HO := Lib.hid (wholeP.srt_order (froms D));have HL := Lib.hid hp0;clear hp0 hb h3 h4;go_wp2_with fail;refine (sortP_box _ _ _ _ (by omega) _ hown).mono ?_;rintro e w2 ⟨rfl, hg2, tl, hbx⟩;have hw2 := hw.grown hg2 hw.size (fun k hk => by cases hk; exact hB);go_wp2_with fail;refine (compact_any g cap (froms D).length (srt cmpP (froms D)) tl (Lib.hid HS.out.length_eq) hle h1 h2 HO _ hbx).mono ?_;rintro e w3 ⟨M, rfl, hr, hri, hm, hg3⟩;go_wp2
    go_ret
    exact ⟨M, _, cap, rfl, hr, hri, fun p => by rw [hm p, HS.out.mem_iff, HL.out.mem_iff], hw2.grown hg3 hw2.size (fun k hk => by cases hk; exact hB)⟩
  ·intro u x T R' w2 hperm HR1 hg1 hs1 hen;have hD2 := Lib.hid (show ((D ++ [((u, x), T)]) ++ R').Perm E by have := (hperm.append_left D).symm.trans hD.out; simpa using this);have own2 := hown.kept hg1 (.inr (fun e => zAz hown HR e.symm));have hw2 := hw.grown hg1 hw.size (fun k hk => by cases hk; exact hr0.out);have HL := Lib.hid (show w2.rangeLeft b w0.heap.size < wr.rangeLeft b w0.heap.size by rw [zAg HR1, zAg HR, hperm.length_eq]; simp);have hen2 : (Instr.entry (.pointer (some ⟨w0.heap.size, 0, none⟩))).run Tryz.prog w2 = .ok (.tuple #[.agg #[.int .i64 u.x, .int .i64 u.y, .int .i64 x.x, .int .i64 x.y], .agg #[.int .i64 T.A.x, .int .i64 T.A.y, .int .i64 T.B.x, .int .i64 T.B.y, .int .i64 T.C.x, .int .i64 T.C.y]]) w2 := hen;have hle : (froms D).length ≤ 1000000 := by have := hD2.out.length_eq; unfold froms; simp at *; omega
   have HH := Lib.hid (show froms (D ++ [((u, x), T)]) = froms D ++ [u] by unfold froms; rw [List.map_append]; rfl);have HB := Lib.hid hw2.size;have hb3 : Below w2.heap.size w2 (w2.alloc (.cells #[.int .i64 u.x, .int .i64 u.y, .int .i64 x.x, .int .i64 x.y] 123)) := by go_grown
   have own3 := own2.alloc (.cells #[.int .i64 u.x, .int .i64 u.y, .int .i64 x.x, .int .i64 x.y] 123);have HO3 := Lib.hid own3;clear hown HR hg1 hs1 hen hperm hw own2;go_wp2_with (at_builtin; refine append_ptO rfl _ _ rfl w.heap.size _ (froms D) rfl (own3.alloc _) (w2.heap.size + 1) u rfl (Box.new (by simp)) hle (by have := HB.out; simp; omega) ?_; intro w4 v4 hown4 hg4 hn4)
   have hR3 := (HR1.ee hb3).kept (World.grownBy_alloc _ (.cells (cP u).toArray 30) none) (by simp) (by simp);have hR4 := hR3.kept hg4 (zC7 (own3.alloc _) hR3.holds) (zAz (own3.alloc _) hR3);have hw4 := ((((upB hw2 hb3)).alloc (by have := HB.out; simp; omega) (.cells (cP u).toArray 30))).grown hg4 (by have := HB.out; simp; omega) (fun k hk => ((own3.alloc (.cells (cP u).toArray 30)).lt k hk).1)
   go_roundw
   case rel => exact ⟨D ++ [((u, x), T)], R', hD2, Lib.hid hn4, by rw [HH.out]; exact hown4, hR4, hw4⟩
   case measure => rw [zAg hR4, ← zAg HR1]; exact HL.out
end Go.Proofs.YtjkfakaehjmnbaaGreat
namespace Go.Proofs.YtjkfakaehjmnbaaGreat
open Go.RowKit
def wys (T : Tri3) : Es := [((T.A, T.B), T), ((T.B, T.C), T), ((T.C, T.A), T)]
theorem zEq {T : Tri3} (h : valT T = true) : T.A ≠ T.B ∧ T.B ≠ T.C ∧ T.C ≠ T.A := by
 unfold valT at h;simp only [Bool.and_eq_true, Bool.not_eq_true', decide_eq_false_iff_not] at h;have h0 := h.1;refine ⟨fun e => h0 ?_, fun e => h0 ?_, fun e => h0 ?_⟩
 ·rw [e]; unfold ori det; simp [sgn]
 ·rw [e]; unfold ori det; rw [Int.mul_comm (T.C.x - T.A.x)]; simp [sgn]
 ·rw [e]; unfold ori det; simp [sgn]
theorem zHm {E : Es} {T : Tri3} (h : fitsE E T = true) : getE E (T.A, T.B) = none ∧ getE E (T.B, T.C) = none ∧ getE E (T.C, T.A) = none ∧ valT T = true := by
 unfold fitsE at h
 simpa only [Bool.and_eq_true, Option.isNone_iff_eq_none] using h
theorem putT_eq {E : Es} {T : Tri3} (h : fitsE E T = true) : (putT E T).Perm (E ++ wys T) := by
 obtain ⟨h1, h2, h3, hv⟩ := zHm h;obtain ⟨a1, a2, a3⟩ := zEq hv;rw [zCx] at h1 h2 h3;unfold putT putE wys;rw [zD6 h1, zD6 (x := (T.B, T.C)) (E := ((T.A, T.B), T) :: E) (fun p hp => by
  rcases List.mem_cons.1 hp with rfl | hp
  ·intro e; simp at e; exact a1 e.1
  ·exact h2 p hp), zD6 (x := (T.C, T.A)) (E := ((T.B, T.C), T) :: ((T.A, T.B), T) :: E) (fun p hp => by
  rcases List.mem_cons.1 hp with rfl | hp
  ·intro e; simp at e; exact a2 e.1
  ·rcases List.mem_cons.1 hp with rfl | hp
   ·intro e; simp at e; exact a3 e.1.symm
   ·exact h3 p hp)]
 refine List.Perm.trans ?_ (List.perm_append_comm (l₁ := [((T.A, T.B), T), ((T.B, T.C), T), ((T.C, T.A), T)]));exact (List.reverse_perm [((T.A, T.B), T), ((T.B, T.C), T), ((T.C, T.A), T)]).append_right E
structure Good (E : Es) (L : List Tri3) : Prop where
 perm : E.Perm (L.flatMap wys)
 nodup : KeysNodup E
 val : ∀ T ∈ L, valT T = true
theorem zIm : ∀ (L : List Tri3), (∀ T ∈ L, valT T = true) → heads yes (L.flatMap wys) = L
 | [], _ => rfl
 | T :: L, h => by
  obtain ⟨a1, a2, a3⟩ := zEq (h T (by simp));rw [List.flatMap_cons, zAy, zIm L (fun S hS => h S (by simp [hS]))];have : heads yes (wys T) = [T] := by
   unfold heads wys yes;simp [Ne.symm a1, a3]
  rw [this]; rfl
theorem Good.heads {E : Es} {L : List Tri3} (h : Good E L) : (heads yes E).Perm L := by
 have := zCw (p := yes) h.perm
 rwa [zIm L h.val] at this
theorem zKd : ∀ L : List Tri3, (L.flatMap wys).length = 3 * L.length
 | [] => rfl
 | T :: L => by rw [List.flatMap_cons, List.length_append, zKd L, List.length_cons]; simp [wys]; omega
theorem Good.len {E : Es} {L : List Tri3} (h : Good E L) : E.length = 3 * L.length := by rw [h.perm.length_eq, zKd]
theorem zIp : ∀ L : List Tri3, froms (L.flatMap wys) = cnrs L
 | [] => rfl
 | T :: L => by
  have ih := zIp L;unfold froms cnrs at *;rw [List.flatMap_cons, List.map_append, ih, List.flatMap_cons]; rfl
theorem Good.froms {E : Es} {L S : List Tri3} (h : Good E L) (hS : S.Perm L) (p : Pt) : p ∈ froms E ↔ p ∈ cnrs S := by
 have h1 : (Go.Proofs.YtjkfakaehjmnbaaGreat.froms E).Perm (cnrs L) := by
  rw [← zIp L]; exact h.perm.map _
 rw [h1.mem_iff];unfold cnrs;exact (hS.flatMap_right _).mem_iff.symm
theorem Good.left {E : Es} {L : List Tri3} (h : Good E L) {T : Tri3} (hT : T ∈ L) {i : Int} (hi : i = 0 ∨ i = 1 ∨ i = 2) : lftE E (crn T i) (crn T (i + 1)) = (T, true) := by
 refine zAn (zEy h.nodup (h.perm.mem_iff.2 (List.mem_flatMap.2 ⟨T, hT, ?_⟩)));rcases hi with rfl | rfl | rfl <;> simp [wys, crn, plc]
theorem zB2 {a b c : Pt} (va : vld a = true) (vb : vld b = true) (vc : vld c = true) (h : 0 < det a b c) : Cyc (mk a b c) a b c ∧ valT (mk a b c) = true := by
 have o : ori a b c = 1 := by rw [ori_v va vb vc, sgn_pos]; exact h
 have h0 : ¬ ori a b c = 0 := by omega
 obtain ⟨_, _, _, n1, n2, n3⟩ := zJl h0;have e0 : mk a b c = mkT a b c := by unfold mk; rw [if_neg h0, if_pos o]
 refine ⟨?_, (mk_ok h0).1⟩;rw [e0];rcases zDu va vb vc n1 n2 n3 with ⟨_, _, e⟩ | ⟨_, _, e⟩ | ⟨_, _, e⟩ <;> rw [e]
 ·exact .inl ⟨rfl, rfl, rfl⟩
 ·exact .inr (.inr ⟨rfl, rfl, rfl⟩)
 ·exact .inr (.inl ⟨rfl, rfl, rfl⟩)
def part (p a b : Pt) : List Tri3 := if ori a b p = 0 then [] else [mk a b p]
def cutP (p : Pt) (T : Tri3) : List Tri3 := part p T.A T.B ++ (part p T.B T.C ++ part p T.C T.A)
theorem zB5 {p a b : Pt} (va : vld a = true) (vb : vld b = true) (vp : vld p = true) (h : 0 < det a b p) : part p a b = [mk a b p] := by
 unfold part; rw [if_neg]; rw [ori_v va vb vp, zBp]; omega
theorem zD4 {p a b : Pt} (va : vld a = true) (vb : vld b = true) (vp : vld p = true) (h : det a b p = 0) : part p a b = [] := by
 unfold part; rw [if_pos]; rw [ori_v va vb vp, h]; rfl
theorem zEc {T : Tri3} {a b c : Pt} (h : Cyc T a b c) (p : Pt) : (cutP p T).Perm (part p a b ++ (part p b c ++ part p c a)) := by
 unfold cutP;rcases h with ⟨rfl, rfl, rfl⟩ | ⟨rfl, rfl, rfl⟩ | ⟨rfl, rfl, rfl⟩
 ·exact .refl _
 ·exact List.perm_append_comm.trans (by rw [List.append_assoc])
 ·rw [← List.append_assoc]; exact List.perm_append_comm
theorem flat_nodup {L : List Tri3} (h : (L.flatMap ways).Nodup) : L.Nodup := by
 induction L with
 | nil => exact List.nodup_nil
 | cons T L ih =>
  rw [List.flatMap_cons, List.nodup_append] at h;rw [List.nodup_cons];refine ⟨fun hT => ?_, ih h.2.1⟩;exact h.2.2 (T.A, T.B) (by simp [ways]) (T.A, T.B) (List.mem_flatMap.2 ⟨T, hT, by simp [ways]⟩) rfl
theorem zHn {α : Type} [DecidableEq α] {L : List α} (hn : L.Nodup) {p : α → Bool} {a : α} (ha : a ∈ L) (h : ∀ x ∈ L, p x = true ↔ x = a) : (L.filter p).Perm [a] ∧ L.Perm (a :: L.filter fun x => !p x) := by
 have h1 : (L.filter p).Perm [a] := by
  refine (List.perm_ext_iff_of_nodup (hn.sublist List.filter_sublist) (by simp)).2 fun x => ?_;simp only [List.mem_filter, List.mem_singleton];exact ⟨fun ⟨k1, k2⟩ => (h x k1).1 k2, fun k => by subst k; exact ⟨ha, (h x ha).2 rfl⟩⟩
 refine ⟨h1, ?_⟩;have := List.filter_append_perm p L;exact this.symm.trans (h1.append_right _)
theorem filter_two {α : Type} [DecidableEq α] {L : List α} (hn : L.Nodup) {p : α → Bool} {a b : α} (ha : a ∈ L) (hb : b ∈ L) (hab : a ≠ b) (h : ∀ x ∈ L, p x = true ↔ (x = a ∨ x = b)) : (L.filter p).Perm [a, b] ∧ L.Perm (a :: b :: L.filter fun x => !p x) := by
 have h1 : (L.filter p).Perm [a, b] := by
  refine (List.perm_ext_iff_of_nodup (hn.sublist List.filter_sublist) (by simp [hab])).2 fun x => ?_;simp only [List.mem_filter, List.mem_cons, List.not_mem_nil, or_false];refine ⟨fun ⟨k1, k2⟩ => (h x k1).1 k2, fun k => ?_⟩;rcases k with rfl | rfl
  ·exact ⟨ha, (h x ha).2 (.inl rfl)⟩
  ·exact ⟨hb, (h x hb).2 (.inr rfl)⟩
 refine ⟨h1, ?_⟩;have := List.filter_append_perm p L;exact this.symm.trans (h1.append_right _)
inductive Spots (W H : Int) (L : List Tri3) (p : Pt) : List Tri3 → Prop
 | within (T : Tri3) : T ∈ L → insT T p → Spots W H L p [T]
 | rim (T : Tri3) (a b c : Pt) : T ∈ L → Cyc T a b c → edg a b c p → onRim W H a b → Spots W H L p [T]
 | edge (T S : Tri3) (a b c d : Pt) : T ∈ L → S ∈ L → Cyc T a b c → Cyc S b a d → edg a b c p → ¬ onRim W H a b → Spots W H L p [T, S]
section
variable {W H : Int} {L : List Tri3} (h : Tiles W H L)
include h
theorem Tiles.spots (hW : 0 < W) (hH : 0 < H) {p : Pt} (hp : inBox W H p) (hn : ∀ T ∈ L, ¬ isCnr T p) {f : Tri3 → Bool} (hf : ∀ T ∈ L, f T = true ↔ hasT T p) :
    ∃ F, Spots W H L p F ∧ (L.filter f).Perm F ∧ L.Perm (F ++ L.filter fun x => !f x) := by
 obtain ⟨T, hT, k⟩ := h.covers hW hH hp;have nd := flat_nodup h.once;rcases zIn (h.pos T hT) k with g | g | ⟨a, b, c, hc, g⟩
 ·exact absurd g (hn T hT)
 ·have := zHn nd hT (p := f) (fun x hx => by
    rw [hf x hx];exact ⟨fun q => (h.ins_one hT hx g q).symm, fun e => by rw [e]; exact k⟩)
  exact ⟨_, .within T hT g, this⟩
 ·have two := fun x hx (q : hasT x p) => h.edg_two hT hx hc g q (hn x hx);by_cases hr : onRim W H a b
  ·have := zHn nd hT (p := f) (fun x hx => by
     rw [hf x hx];refine ⟨fun q => ?_, fun e => by rw [e]; exact k⟩;rcases two x hx q with e | ⟨_, e⟩
     ·exact e
     ·exact absurd hr e)
   exact ⟨_, .rim T a b c hT hc g hr, this⟩
  ·have hm := (h.rim (a, b) (zGv hT hc.way)).resolve_right hr;obtain ⟨S, hS, hw⟩ := List.mem_flatMap.1 hm;have hw : (b, a) ∈ ways S := hw;obtain ⟨d, hd⟩ := zDb hw;have pT := h.cyc_pos hT hc;have pS := h.cyc_pos hS hd;have ho := zE0 pT pS g;have hne : T ≠ S := by
    rintro rfl;have e1 := (hd.cnr_iff c).1 hc.turn.turn.cnr;obtain ⟨n1, n2, n3⟩ := zAj pT;rcases e1 with e | e | e
    ·exact n2 e.symm
    ·exact n3 e
    ·rw [← e, zCy] at pS; omega
   have hasS : hasT S p := by
    obtain ⟨o1, o2, o3⟩ := ho;have : 0 ≤ det b a p ∧ 0 ≤ det a d p ∧ 0 ≤ det d b p := ⟨by omega, by omega, by omega⟩;unfold hasT;rcases hd with ⟨rfl, rfl, rfl⟩ | ⟨rfl, rfl, rfl⟩ | ⟨rfl, rfl, rfl⟩
    ·exact this
    ·exact ⟨this.2.2, this.1, this.2.1⟩
    ·exact ⟨this.2.1, this.2.2, this.1⟩
   have := filter_two nd hT hS hne (p := f) (fun x hx => by
    rw [hf x hx];refine ⟨fun q => ?_, fun e => ?_⟩
    ·rcases two x hx q with e | ⟨e, _⟩
     ·exact .inl e
     ·exact .inr (flat_one h.once hx hS e hw)
    ·rcases e with rfl | rfl
     ·exact k
     ·exact hasS)
   exact ⟨_, .edge T S a b c d hT hS hc hd g hr, this⟩
theorem tiles_cut (hW : 0 < W) (hH : 0 < H) (hW' : W < 16777216) (hH' : H < 16777216) {p : Pt} (hp : inBox W H p) (hn : ∀ T ∈ L, ¬ isCnr T p) {F M : List Tri3} (hF : Spots W H L p F) (hL : L.Perm (F ++ M)) :
    Tiles W H (F.flatMap (cutP p) ++ M) ∧ (∀ T ∈ F.flatMap (cutP p), valT T = true ∧ isCnr T p) := by
 have vb : ∀ q, inBox W H q → vld q = true := fun q hq => by rw [zAx]; unfold inBox at hq; omega
 have vp := vb p hp;cases hF with
 | within T hT hi =>
  have hc := Cyc.refl T;have va := vb _ (h.cyc_box hT hc);have vb' := vb _ (h.cyc_box hT hc.turn);have vc := vb _ (h.cyc_box hT hc.turn.turn);obtain ⟨i1, i2, i3⟩ := hi;have e : [T].flatMap (cutP p) = [mk T.A T.B p, mk T.B T.C p, mk T.C T.A p] := by
   simp only [List.flatMap_cons, List.flatMap_nil, List.append_nil];unfold cutP;rw [zB5 va vb' vp i1, zB5 vb' vc vp i2, zB5 vc va vp i3]; rfl
  rw [e];have m1 := zB2 va vb' vp i1;have m2 := zB2 vb' vc vp i2;have m3 := zB2 vc va vp i3;refine ⟨h.cut3 hn hp hL hc ⟨i1, i2, i3⟩ m1.1 m2.1 m3.1, fun X hX => ?_⟩;simp only [List.mem_cons, List.not_mem_nil, or_false] at hX;rcases hX with rfl | rfl | rfl
  ·exact ⟨m1.2, m1.1.turn.turn.cnr⟩
  ·exact ⟨m2.2, m2.1.turn.turn.cnr⟩
  ·exact ⟨m3.2, m3.1.turn.turn.cnr⟩
 | rim T a b c hT hc hi hr =>
  have va := vb _ (h.cyc_box hT hc);have vb' := vb _ (h.cyc_box hT hc.turn);have vc := vb _ (h.cyc_box hT hc.turn.turn);obtain ⟨i1, i2, i3⟩ := hi;have e : ([T].flatMap (cutP p)).Perm [mk b c p, mk c a p] := by
   simp only [List.flatMap_cons, List.flatMap_nil, List.append_nil];have := zEc hc p;rw [zD4 va vb' vp i1, zB5 vb' vc vp i2, zB5 vc va vp i3] at this;exact this
  have m2 := zB2 vb' vc vp i2;have m3 := zB2 vc va vp i3;refine ⟨(h.cut2r hn hp hL hc ⟨i1, i2, i3⟩ hr m2.1 m3.1).perm (e.symm.append_right M), fun X hX => ?_⟩;rw [e.mem_iff] at hX;simp only [List.mem_cons, List.not_mem_nil, or_false] at hX;rcases hX with rfl | rfl
  ·exact ⟨m2.2, m2.1.turn.turn.cnr⟩
  ·exact ⟨m3.2, m3.1.turn.turn.cnr⟩
 | edge T S a b c d hT hS hc hd hi hr =>
  have va := vb _ (h.cyc_box hT hc);have vb' := vb _ (h.cyc_box hT hc.turn);have vc := vb _ (h.cyc_box hT hc.turn.turn);have vd := vb _ (h.cyc_box hS hd.turn.turn);have ho := zE0 (h.cyc_pos hT hc) (h.cyc_pos hS hd) hi;obtain ⟨i1, i2, i3⟩ := hi;obtain ⟨o1, o2, o3⟩ := ho;have e : ([T, S].flatMap (cutP p)).Perm [mk b c p, mk c a p, mk a d p, mk d b p] := by
   simp only [List.flatMap_cons, List.flatMap_nil, List.append_nil];have e1 := zEc hc p;rw [zD4 va vb' vp i1, zB5 vb' vc vp i2, zB5 vc va vp i3] at e1;have e2 := zEc hd p;rw [zD4 vb' va vp o1, zB5 va vd vp o2, zB5 vd vb' vp o3] at e2;exact e1.append e2
  have m1 := zB2 vb' vc vp i2;have m2 := zB2 vc va vp i3;have m3 := zB2 va vd vp o2;have m4 := zB2 vd vb' vp o3;refine ⟨(h.cut4 hn hp hL hc hd ⟨i1, i2, i3⟩ m1.1 m2.1 m3.1 m4.1).perm (e.symm.append_right M), fun X hX => ?_⟩;rw [e.mem_iff] at hX;simp only [List.mem_cons, List.not_mem_nil, or_false] at hX;rcases hX with rfl | rfl | rfl | rfl
  ·exact ⟨m1.2, m1.1.turn.turn.cnr⟩
  ·exact ⟨m2.2, m2.1.turn.turn.cnr⟩
  ·exact ⟨m3.2, m3.1.turn.turn.cnr⟩
  ·exact ⟨m4.2, m4.1.turn.turn.cnr⟩
end
theorem zGf (L : List Tri3) : (L.flatMap wys).map (·.1) = L.flatMap ways := by
 induction L with
 | nil => rfl
 | cons T L ih => rw [List.flatMap_cons, List.flatMap_cons, List.map_append, ih]; rfl
theorem zJ6 {L : List Tri3} {w : Pt × Pt} {T : Tri3} : (w, T) ∈ L.flatMap wys ↔ T ∈ L ∧ w ∈ ways T := by
 rw [List.mem_flatMap];constructor
 ·rintro ⟨S, hS, h⟩;simp only [wys, List.mem_cons, Prod.mk.injEq, List.not_mem_nil, or_false] at h;rcases h with ⟨rfl, rfl⟩ | ⟨rfl, rfl⟩ | ⟨rfl, rfl⟩ <;> exact ⟨hS, by simp [ways]⟩
 ·rintro ⟨hS, h⟩;refine ⟨T, hS, ?_⟩;simp only [ways, List.mem_cons, List.not_mem_nil, or_false] at h;rcases h with rfl | rfl | rfl <;> simp [wys]
section
variable {E : Es} {L : List Tri3} (h : Good E L)
include h
theorem Good.once : (L.flatMap ways).Nodup := by
 rw [← zGf];have hn := h.nodup;unfold KeysNodup at hn;exact (h.perm.map (·.1)).nodup_iff.1 hn
theorem Good.get {a b : Pt} {T : Tri3} : getE E (a, b) = some T ↔ T ∈ L ∧ (a, b) ∈ ways T := by
 rw [getE_iff h.nodup, h.perm.mem_iff, zJ6]
theorem Good.get_none {a b : Pt} : getE E (a, b) = none ↔ (a, b) ∉ L.flatMap ways := by
 rw [zCx];constructor
 ·intro k hm;rw [← zGf, List.mem_map] at hm;obtain ⟨p, hp, e⟩ := hm;exact k p (h.perm.mem_iff.2 hp) e
 ·intro k p hp e;apply k;rw [← zGf, List.mem_map];exact ⟨p, h.perm.mem_iff.1 hp, e⟩
theorem Good.has {T : Tri3} : hasE E T = true ↔ T ∈ L := by
 unfold hasE;constructor
 ·intro k;cases hg : getE E (T.A, T.B) with
  | none => rw [hg] at k; cases k
  | some S =>
   rw [hg] at k;have e := zCn.1 k;rw [← e]; exact (h.get.1 hg).1
 ·intro k;rw [h.get.2 ⟨k, by simp [ways]⟩];exact zCn.2 rfl
theorem Good.order {M : List Tri3} (p : L.Perm M) : Good E M := ⟨h.perm.trans (p.flatMap_right _), h.nodup, fun T hT => h.val T (p.mem_iff.2 hT)⟩
end
theorem zFw {E : Es} (h : KeysNodup E) (T : Tri3) : KeysNodup (takeT E T) := zC9 (zC9 (zC9 h _) _) _
theorem Good.take {E : Es} {T : Tri3} {M : List Tri3} (h : Good E (T :: M)) : hasE E T = true ∧ Good (takeT E T) M := by
 refine ⟨h.has.2 (by simp), ?_, zFw h.nodup T, fun S hS => h.val S (by simp [hS])⟩;have hT := h.val T (by simp);have ho := h.once;rw [List.flatMap_cons, List.nodup_append] at ho
 -- what is taken: the three pairs of T
 have hp : E.Perm (wys T ++ M.flatMap wys) := by have := h.perm; rwa [List.flatMap_cons] at this
 have e1 : takeT E T = E.filter (fun p => decide (p.1 ∉ ways T)) := by
  unfold takeT delE;rw [List.filter_filter, List.filter_filter];refine List.filter_congr fun p _ => ?_;simp only [ways, List.mem_cons, List.not_mem_nil, or_false];by_cases a1 : p.1 = (T.A, T.B) <;> by_cases a2 : p.1 = (T.B, T.C) <;> by_cases a3 : p.1 = (T.C, T.A) <;> simp [a1, a2, a3]
 rw [e1];refine (hp.filter _).trans ?_;rw [List.filter_append];have f1 : (wys T).filter (fun p => decide (p.1 ∉ ways T)) = [] := by
  rw [List.filter_eq_nil_iff];intro p hp';have : p.1 ∈ ways T := by
   have : p ∈ [T].flatMap wys := by simpa using hp'
   obtain ⟨q, S⟩ := p;have := zJ6.1 this;simp only [List.mem_singleton] at this;rw [← this.1]; exact this.2
  simpa using this
 have f2 : (M.flatMap wys).filter (fun p => decide (p.1 ∉ ways T)) = M.flatMap wys := by
  rw [List.filter_eq_self];intro p hp';have : p.1 ∉ ways T := fun k => ho.2.2 p.1 k p.1 (by rw [← zGf]; exact List.mem_map_of_mem hp') rfl
  simpa using this
 rw [f1, f2, List.nil_append]
theorem Good.put {E : Es} {T : Tri3} {M : List Tri3} (h : Good E M) (hv : valT T = true) (hn : ∀ w ∈ ways T, w ∉ M.flatMap ways) : fitsE E T = true ∧ Good (putT E T) (T :: M) := by
 have hf : fitsE E T = true := by
  unfold fitsE;simp only [Bool.and_eq_true, Option.isNone_iff_eq_none];exact ⟨h.get_none.2 (hn _ (by simp [ways])), h.get_none.2 (hn _ (by simp [ways])), h.get_none.2 (hn _ (by simp [ways])), hv⟩
 refine ⟨hf, ?_, zBn (zBn (zBn h.nodup _ _) _ _) _ _, fun S hS => ?_⟩
 ·refine (putT_eq hf).trans ?_;rw [List.flatMap_cons];exact (h.perm.append_right _).trans List.perm_append_comm
 ·rcases List.mem_cons.1 hS with rfl | hS
  ·exact hv
  ·exact h.val S hS
theorem Good.takes : ∀ {F : List Tri3} {E : Es} {M : List Tri3}, Good E (F ++ M) → (takeRun E F).1 = F.length ∧ Good (takeRun E F).2 M
 | [], E, M, h => ⟨rfl, h⟩
 | T :: F, E, M, h => by
  obtain ⟨h1, h2⟩ := Good.take (E := E) (T := T) (M := F ++ M) h;obtain ⟨k1, k2⟩ := Good.takes h2;unfold takeRun;rw [if_pos h1];exact ⟨by simp [k1], k2⟩
theorem Good.puts : ∀ {I : List Tri3} {E : Es} {M : List Tri3}, Good E M → (∀ T ∈ I, valT T = true) → ((I ++ M).flatMap ways).Nodup → (putRun E I).1 = I.length ∧ Good (putRun E I).2 (I ++ M)
 | [], E, M, h, _, _ => ⟨rfl, h⟩
 | T :: I, E, M, h, hv, hn => by
  have hn' : (ways T ++ (I ++ M).flatMap ways).Nodup := by rw [← List.flatMap_cons]; exact hn
  rw [List.nodup_append] at hn';obtain ⟨h1, h2⟩ := Good.put (E := E) (T := T) (M := M) h (hv T (by simp)) (fun w hw k => hn'.2.2 w hw w (by rw [List.flatMap_append]; exact List.mem_append_right _ k) rfl);obtain ⟨k1, k2⟩ := Good.puts (I := I) h2 (fun S hS => hv S (by simp [hS])) ((zB6 (List.perm_middle (a := T) (l₁ := I) (l₂ := M))).nodup_iff.2 hn);unfold putRun;rw [if_pos h1];exact ⟨by simp [k1], k2.order List.perm_middle⟩
def someC (L : List Tri3) (p : Pt) : Prop := ∃ T ∈ L, isCnr T p
structure Kept (K : Pt → Pt → Prop) (L L' : List Tri3) : Prop where
 len : L'.length = L.length
 cnr : ∀ p, someC L' p ↔ someC L p
 wall : ∀ a b, K a b → (a, b) ∈ L.flatMap ways → (a, b) ∈ L'.flatMap ways
theorem Kept.refl (K : Pt → Pt → Prop) (L : List Tri3) : Kept K L L := ⟨rfl, fun _ => Iff.rfl, fun _ _ _ h => h⟩
theorem Kept.trans {K : Pt → Pt → Prop} {A B C : List Tri3} (h : Kept K A B) (k : Kept K B C) : Kept K A C :=
 ⟨k.len.trans h.len, fun p => (k.cnr p).trans (h.cnr p), fun a b w m => k.wall a b w (h.wall a b w m)⟩
theorem Kept.perm {K : Pt → Pt → Prop} {L M : List Tri3} (p : L.Perm M) : Kept K L M :=
 ⟨p.length_eq.symm, fun q => by unfold someC; simp only [p.mem_iff], fun _ _ _ h => (zB6 p).mem_iff.1 h⟩
structure Flp (K : Pt → Pt → Prop) (L : List Tri3) (S R : Tri3) (M : List Tri3) (a b c d : Pt) : Prop where
 make ::
 perm : L.Perm (S :: R :: M)
 one : Cyc S a b c
 two : Cyc R b a d
 free : ¬ K a b ∧ ¬ K b a
 left : 0 < det c a d
 right : 0 < det d b c
section
variable {W H : Int} {K : Pt → Pt → Prop} {L : List Tri3} {S R : Tri3} {M : List Tri3} {a b c d : Pt}
theorem Flp.pts (f : Flp K L S R M a b c d) (h : Tiles W H L) : inBox W H a ∧ inBox W H b ∧ inBox W H c ∧ inBox W H d := by
 have mS : S ∈ L := f.perm.mem_iff.2 (by simp);have mR : R ∈ L := f.perm.mem_iff.2 (by simp);exact ⟨h.cyc_box mS f.one, h.cyc_box mS f.one.turn, h.cyc_box mS f.one.turn.turn, h.cyc_box mR f.two.turn.turn⟩
theorem Flp.news (f : Flp K L S R M a b c d) (h : Tiles W H L) (hW : W < 16777216) (hH : H < 16777216) :
    (Cyc (mk c a d) c a d ∧ valT (mk c a d) = true) ∧ (Cyc (mk d b c) d b c ∧ valT (mk d b c) = true) := by
 have vb : ∀ q, inBox W H q → vld q = true := fun q hq => by rw [zAx]; unfold inBox at hq; omega
 obtain ⟨ba, bb, bc, bd⟩ := f.pts h;exact ⟨zB2 (vb _ bc) (vb _ ba) (vb _ bd) f.left, zB2 (vb _ bd) (vb _ bb) (vb _ bc) f.right⟩
theorem Flp.tiles (f : Flp K L S R M a b c d) (h : Tiles W H L) (hW : W < 16777216) (hH : H < 16777216) : Tiles W H (mk c a d :: mk d b c :: M) := by
 obtain ⟨u, v⟩ := f.news h hW hH;exact h.flip f.perm f.one f.two f.left f.right u.1 v.1
theorem Flp.kept (f : Flp K L S R M a b c d) (h : Tiles W H L) (hW : W < 16777216) (hH : H < 16777216) : Kept K L (mk c a d :: mk d b c :: M) := by
 obtain ⟨⟨u, _⟩, v, _⟩ := f.news h hW hH;refine (Kept.perm f.perm).trans ⟨rfl, fun p => ?_, fun x y hk hm => ?_⟩
 ·unfold someC;simp only [List.mem_cons];constructor
  ·rintro ⟨T, rfl | rfl | hT, hp⟩
   ·rcases (u.cnr_iff p).1 hp with rfl | rfl | rfl
    ·exact ⟨S, .inl rfl, f.one.turn.turn.cnr⟩
    ·exact ⟨S, .inl rfl, f.one.cnr⟩
    ·exact ⟨R, .inr (.inl rfl), f.two.turn.turn.cnr⟩
   ·rcases (v.cnr_iff p).1 hp with rfl | rfl | rfl
    ·exact ⟨R, .inr (.inl rfl), f.two.turn.turn.cnr⟩
    ·exact ⟨S, .inl rfl, f.one.turn.cnr⟩
    ·exact ⟨S, .inl rfl, f.one.turn.turn.cnr⟩
   ·exact ⟨T, .inr (.inr hT), hp⟩
  ·rintro ⟨T, rfl | rfl | hT, hp⟩
   ·rcases (f.one.cnr_iff p).1 hp with rfl | rfl | rfl
    ·exact ⟨_, .inl rfl, u.turn.cnr⟩
    ·exact ⟨_, .inr (.inl rfl), v.turn.cnr⟩
    ·exact ⟨_, .inl rfl, u.cnr⟩
   ·rcases (f.two.cnr_iff p).1 hp with rfl | rfl | rfl
    ·exact ⟨_, .inr (.inl rfl), v.turn.cnr⟩
    ·exact ⟨_, .inl rfl, u.turn.cnr⟩
    ·exact ⟨_, .inr (.inl rfl), v.cnr⟩
   ·exact ⟨T, .inr (.inr hT), hp⟩
 ·rw [List.flatMap_cons, List.flatMap_cons] at hm ⊢;simp only [List.mem_append] at hm ⊢;rw [f.one.ways.mem_iff, f.two.ways.mem_iff] at hm;rw [u.ways.mem_iff, v.ways.mem_iff];simp only [List.mem_cons, Prod.mk.injEq, List.not_mem_nil, or_false] at hm ⊢;obtain ⟨f1, f2⟩ := f.free;rcases hm with (⟨rfl, rfl⟩ | h | h) | (⟨rfl, rfl⟩ | h | h) | h
  ·exact absurd hk f1
  ·exact .inr (.inl (.inr (.inl h)))
  ·exact .inl (.inl h)
  ·exact absurd hk f2
  ·exact .inl (.inr (.inl h))
  ·exact .inr (.inl (.inl h))
  ·exact .inr (.inr h)
theorem Flp.good {E : Es} (f : Flp K L S R M a b c d) (g : Good E L) (h : Tiles W H L) (hW : W < 16777216) (hH : H < 16777216) :
    ((takeRun E [S, R]).1 = 2 ∧ (putRun (takeRun E [S, R]).2 [mk c a d, mk d b c]).1 = 2) ∧ Good (putRun (takeRun E [S, R]).2 [mk c a d, mk d b c]).2 (mk c a d :: mk d b c :: M) := by
 have k := Good.takes (F := [S, R]) (M := M) (g.order f.perm);obtain ⟨u, v⟩ := f.news h hW hH;have t := f.tiles h hW hH;have p := Good.puts (I := [mk c a d, mk d b c]) k.2 (fun T hT => by
  simp only [List.mem_cons, List.not_mem_nil, or_false] at hT;rcases hT with rfl | rfl
  ·exact u.2
  ·exact v.2) t.once
 exact ⟨⟨k.1, p.1⟩, p.2⟩
theorem Flp.less {h : Pt → Int} (f : Flp K L S R M a b c d) (t : Tiles W H L) (hW : W < 16777216) (hH : H < 16777216) (hp : 0 < PH h a b c d) : volS h (mk c a d :: mk d b c :: M) < volS h L := by
 obtain ⟨u, v⟩ := f.news t hW hH;rw [volS_perm f.perm, vol_flip h M f.one f.two u.1 v.1];omega
end
theorem Tiles.vols {W H : Int} {L : List Tri3} (h : Tiles W H L) (hW : W < 16777216) (hH : H < 16777216) {ht : Pt → Int} (hh : Hts ht) : 0 ≤ volS ht L := by
 have vb : ∀ q, inBox W H q → vld q = true := fun q hq => by rw [zAx]; unfold inBox at hq; omega
 refine zKe hh fun T hT => ⟨h.pos T hT, vb _ (h.box T hT).1, vb _ (h.box T hT).2.1, vb _ (h.box T hT).2.2⟩
theorem Tiles.flip_bad {W H : Int} {K : Pt → Pt → Prop} {L : List Tri3} (h : Tiles W H L) (hW : W < 16777216) (hH : H < 16777216) {ht : Pt → Int} (hh : Hts ht) {S R : Tri3} (hS : S ∈ L) (hR : R ∈ L) {a b c d : Pt} (cS : Cyc S a b c) (cR : Cyc R b a d) (hk : ¬ K a b ∧ ¬ K b a) (hb : circ a b c d = 1) :
    0 < PH ht a b c d ∧ ∃ M, Flp K L S R M a b c d := by
 have vb : ∀ q, inBox W H q → vld q = true := fun q hq => by rw [zAx]; unfold inBox at hq; omega
 have p1 := h.cyc_pos hS cS;have p2 := h.cyc_pos hR cR;obtain ⟨q1, q2, q3⟩ := zAj p2;have dc : d ≠ c := by
  rintro rfl;rw [zCy] at p2; omega
 have sg := hh.sign a b c d (vb _ (h.cyc_box hS cS)) (vb _ (h.cyc_box hS cS.turn)) (vb _ (h.cyc_box hS cS.turn.turn)) (vb _ (h.cyc_box hR cR.turn.turn)) p1 (Ne.symm q2) q3 dc;have hne : S ≠ R := by
  rintro rfl;obtain ⟨n1, n2, n3⟩ := zAj p1;rcases (cR.cnr_iff c).1 cS.turn.turn.cnr with e | e | e
  ·exact n2 e.symm
  ·exact n3 e
  ·exact dc e.symm
 rcases sg with ⟨_, s2, s3⟩ | ⟨s1, _⟩
 ·obtain ⟨x, y⟩ := convex p1 p2 s3;obtain ⟨M, hM⟩ := zDm hS hR hne;exact ⟨s2, M, hM, cS, cR, hk, x, y⟩
 ·omega
def allBack (L : List Tri3) (p : Pt) : Prop := ∀ w ∈ L.flatMap ways, w.1 = p ∨ w.2 = p → (w.2, w.1) ∈ L.flatMap ways
def atRim (W H : Int) (p : Pt) : Prop := p.x = 0 ∨ p.y = 0 ∨ p.x = W ∨ p.y = H
theorem zEt {L : List Tri3} (hpos : ∀ T ∈ L, 0 < det T.A T.B T.C) {al be ga : Int} (hu : al * al + be * be = 1) (hf : ∀ T ∈ L, ∀ q, isCnr T q → 0 ≤ al * q.x + be * q.y + ga) {p : Pt} (hp : al * p.x + be * p.y + ga = 0) (hc : someC L p) : ¬ allBack L p := by
 intro hb;have cycpos : ∀ {T : Tri3} {a b c : Pt}, T ∈ L → Cyc T a b c → 0 < det a b c := fun hT hc => by rw [hc.det]; exact hpos _ hT
 obtain ⟨f, ef⟩ : ∃ f : Pt → Int, ∀ q, f q = al * q.x + be * q.y + ga := ⟨_, fun _ => rfl⟩;obtain ⟨g, eg⟩ : ∃ g : Pt → Int, ∀ q, g q = be * (q.x - p.x) - al * (q.y - p.y) := ⟨_, fun _ => rfl⟩;have hf : ∀ T ∈ L, ∀ q, isCnr T q → 0 ≤ f q := fun T hT q hq => by rw [ef]; exact hf T hT q hq
 have hp : f p = 0 := by rw [ef]; exact hp
 have hd : ∀ x y, det p x y = g x * f y - f x * g y := by
  intro x y;have e1 : g x * f y - f x * g y = (al * al + be * be) * det p x y + (g x - g y) * f p := by
   rw [eg, eg, ef, ef, ef]; unfold det; grind
  rw [e1, hu, hp, Int.one_mul, Int.mul_zero, Int.add_zero]
 clear ef eg hu
 -- the first ways of those that stand around
 let F : List Pt := (L.flatMap ways).filterMap fun w => if w.1 = p then some w.2 else none
 have mF : ∀ x, x ∈ F ↔ (p, x) ∈ L.flatMap ways := by
  intro x;simp only [F, List.mem_filterMap];constructor
  ·rintro ⟨⟨a, b⟩, hw, e⟩;split at e
   ·rename_i e1
    simp only [Option.some.injEq] at e;simp only at e1;rw [← e, ← e1]; exact hw
   ·cases e
  ·intro hw; exact ⟨_, hw, by simp⟩
 have tri : ∀ x, x ∈ F → ∃ T ∈ L, ∃ y, Cyc T p x y := by
  intro x hx;obtain ⟨T, hT, hw⟩ := List.mem_flatMap.1 ((mF x).1 hx);obtain ⟨y, hy⟩ := zDb hw;exact ⟨T, hT, y, hy⟩
 -- of each the triangle on its right
 have right : ∀ x, x ∈ F → ∃ T ∈ L, ∃ z, Cyc T p z x := by
  intro x hx;have := hb (p, x) ((mF x).1 hx) (.inl rfl);obtain ⟨T, hT, hw⟩ := List.mem_flatMap.1 this;have hw : (x, p) ∈ ways T := hw;obtain ⟨z, hz⟩ := zDb hw;exact ⟨T, hT, z, hz.turn⟩
 have fpos : ∀ x ∈ F, 0 < f x := by
  intro x hx;obtain ⟨T, hT, z, hz⟩ := right x hx;obtain ⟨S, hS, y, hy⟩ := tri x hx;have p1 := cycpos hT hz;have p2 := cycpos hS hy;have a1 := hf T hT x hz.turn.turn.cnr;have a2 := hf T hT z hz.turn.cnr;have a3 := hf S hS y hy.turn.turn.cnr;refine Decidable.byContradiction fun k => ?_;have z0 : f x = 0 := by omega
  rw [hd, z0] at p1 p2;simp only [Int.mul_zero, Int.zero_mul, Int.zero_sub, Int.sub_zero] at p1 p2;have n1 : g x < 0 := by
   refine Decidable.byContradiction fun k => ?_;have := Int.mul_nonneg a2 (show 0 ≤ g x by omega);omega
  have := Int.mul_nonneg (show 0 ≤ - g x by omega) a3;rw [Int.neg_mul] at this;omega
 obtain ⟨T, hT, hp'⟩ := hc;obtain ⟨x0, y0, h0⟩ := cnr_cyc hp';have hx0 : x0 ∈ F := (mF x0).2 (zGv hT h0.way);obtain ⟨x, hx, hmax⟩ := zIi g f F (List.ne_nil_of_mem hx0) fpos;obtain ⟨R, hR, z, hz⟩ := right x hx;have hzF : z ∈ F := (mF z).2 (zGv hR hz.way);have p1 := cycpos hR hz;rw [hd] at p1;have := hmax z hzF;have e : f z * g x = g x * f z := Int.mul_comm _ _;omega
theorem Tiles.open {W H : Int} {L : List Tri3} (h : Tiles W H L) {p : Pt} (hp : atRim W H p) (hc : someC L p) : ¬ allBack L p := by
 have bx : ∀ T ∈ L, ∀ q, isCnr T q → inBox W H q := by
  intro T hT q hq;have := h.box T hT;rcases hq with rfl | rfl | rfl
  ·exact this.1
  ·exact this.2.1
  ·exact this.2.2
 rcases hp with k | k | k | k
 ·exact zEt h.pos (al := 1) (be := 0) (ga := 0) (by omega) (fun T hT q hq => by have := bx T hT q hq; unfold inBox at this; omega) (by omega) hc
 ·exact zEt h.pos (al := 0) (be := 1) (ga := 0) (by omega) (fun T hT q hq => by have := bx T hT q hq; unfold inBox at this; omega) (by omega) hc
 ·exact zEt h.pos (al := -1) (be := 0) (ga := W) (by omega) (fun T hT q hq => by have := bx T hT q hq; unfold inBox at this; omega) (by omega) hc
 ·exact zEt h.pos (al := 0) (be := -1) (ga := H) (by omega) (fun T hT q hq => by have := bx T hT q hq; unfold inBox at this; omega) (by omega) hc
theorem zKr {W H : Int} {a b c p : Pt} (h1 : 0 < det a b c) (ba : inBox W H a) (bb : inBox W H b) (he : edg a b c p) : atRim W H p ↔ onRim W H a b := by
 obtain ⟨z, q1, q2⟩ := he;have s := zEn a b c p;have ex : det a b c * p.x = det b c p * a.x + det c a p * b.x + det a b p * c.x := by unfold det; grind
 have ey : det a b c * p.y = det b c p * a.y + det c a p * b.y + det a b p * c.y := by unfold det; grind
 rw [z, Int.zero_mul] at ex ey;rw [z] at s;have key : ∀ u v t : Int, 0 ≤ u → 0 ≤ v → det a b c * t = det b c p * u + det c a p * v → (t = 0 ↔ u = 0 ∧ v = 0) := by
  intro u v t hu hv e;have m1 := Int.mul_nonneg (Int.le_of_lt q1) hu;have m2 := Int.mul_nonneg (Int.le_of_lt q2) hv;constructor
  ·intro h; rw [h, Int.mul_zero] at e;have z1 : det b c p * u = 0 := by omega
   have z2 : det c a p * v = 0 := by omega
   rcases Int.mul_eq_zero.1 z1 with k | k <;> rcases Int.mul_eq_zero.1 z2 with k' | k' <;> omega
  ·rintro ⟨rfl, rfl⟩;rw [Int.mul_zero, Int.mul_zero] at e;rcases Int.mul_eq_zero.1 (show det a b c * t = 0 by omega) with k | k <;> omega
 unfold inBox at ba bb;have k1 := key a.x b.x p.x ba.1.1 bb.1.1 (by omega);have k2 := key a.y b.y p.y ba.2.1 bb.2.1 (by omega);have s' : det b c p + det c a p = det a b c := by omega
 have w1 : det a b c * W = det b c p * W + det c a p * W := by rw [← s', Int.add_mul]
 have w2 : det a b c * H = det b c p * H + det c a p * H := by rw [← s', Int.add_mul]
 have k3 := key (W - a.x) (W - b.x) (W - p.x) (by omega) (by omega) (by rw [Int.mul_sub, Int.mul_sub, Int.mul_sub]; omega);have k4 := key (H - a.y) (H - b.y) (H - p.y) (by omega) (by omega) (by rw [Int.mul_sub, Int.mul_sub, Int.mul_sub]; omega);unfold atRim onRim;omega
theorem ins_norim {W H : Int} {T : Tri3} {p : Pt} (hp : 0 < det T.A T.B T.C) (hb : inBox W H T.A ∧ inBox W H T.B ∧ inBox W H T.C) (hi : insT T p) : ¬ atRim W H p := by
 obtain ⟨q1, q2, q3⟩ := hi;have s := zEn T.A T.B T.C p;have ex : det T.A T.B T.C * p.x = det T.B T.C p * T.A.x + det T.C T.A p * T.B.x + det T.A T.B p * T.C.x := by unfold det; grind
 have ey : det T.A T.B T.C * p.y = det T.B T.C p * T.A.y + det T.C T.A p * T.B.y + det T.A T.B p * T.C.y := by unfold det; grind
 have flat : ∀ al be ga : Int, al * T.A.x + be * T.A.y + ga = 0 → al * T.B.x + be * T.B.y + ga = 0 → al * T.C.x + be * T.C.y + ga = 0 → (al ≠ 0 ∨ be ≠ 0) → False := by
  intro al be ga e1 e2 e3 hn;have i1 : al * det T.A T.B T.C = ((al * T.B.x + be * T.B.y + ga) - (al * T.A.x + be * T.A.y + ga)) * (T.C.y - T.A.y) - ((al * T.C.x + be * T.C.y + ga) - (al * T.A.x + be * T.A.y + ga)) * (T.B.y - T.A.y) := by unfold det; grind
  have i2 : be * det T.A T.B T.C = ((al * T.C.x + be * T.C.y + ga) - (al * T.A.x + be * T.A.y + ga)) * (T.B.x - T.A.x) - ((al * T.B.x + be * T.B.y + ga) - (al * T.A.x + be * T.A.y + ga)) * (T.C.x - T.A.x) := by unfold det; grind
  rw [e1, e2, e3] at i1 i2;simp only [Int.sub_self, Int.zero_mul] at i1 i2;rcases Int.mul_eq_zero.1 i1 with k | k <;> rcases Int.mul_eq_zero.1 i2 with k' | k' <;> omega
 have key : ∀ al be ga : Int, (al ≠ 0 ∨ be ≠ 0) → 0 ≤ al * T.A.x + be * T.A.y + ga → 0 ≤ al * T.B.x + be * T.B.y + ga → 0 ≤ al * T.C.x + be * T.C.y + ga → al * p.x + be * p.y + ga ≠ 0 := by
  intro al be ga hn h1 h2 h3 e;have i : det T.A T.B T.C * (al * p.x + be * p.y + ga) = det T.B T.C p * (al * T.A.x + be * T.A.y + ga) + det T.C T.A p * (al * T.B.x + be * T.B.y + ga) + det T.A T.B p * (al * T.C.x + be * T.C.y + ga) := by unfold det; grind
  rw [e, Int.mul_zero] at i;have m1 := Int.mul_nonneg (Int.le_of_lt q2) h1;have m2 := Int.mul_nonneg (Int.le_of_lt q3) h2;have m3 := Int.mul_nonneg (Int.le_of_lt q1) h3;have z1 := (Int.mul_eq_zero.1 (show det T.B T.C p * (al * T.A.x + be * T.A.y + ga) = 0 by omega)).resolve_left (by omega);have z2 := (Int.mul_eq_zero.1 (show det T.C T.A p * (al * T.B.x + be * T.B.y + ga) = 0 by omega)).resolve_left (by omega);have z3 := (Int.mul_eq_zero.1 (show det T.A T.B p * (al * T.C.x + be * T.C.y + ga) = 0 by omega)).resolve_left (by omega);exact flat al be ga z1 z2 z3 hn
 unfold inBox at hb;have k1 := key 1 0 0 (by omega) (by omega) (by omega) (by omega);have k2 := key 0 1 0 (by omega) (by omega) (by omega) (by omega);have k3 := key (-1) 0 W (by omega) (by omega) (by omega) (by omega);have k4 := key 0 (-1) H (by omega) (by omega) (by omega) (by omega);unfold atRim;omega
theorem has_box {W H : Int} {T : Tri3} {p : Pt} (hp : 0 < det T.A T.B T.C) (hb : inBox W H T.A ∧ inBox W H T.B ∧ inBox W H T.C) (hi : hasT T p) : inBox W H p := by
 obtain ⟨q1, q2, q3⟩ := hi;have key : ∀ al be ga : Int, 0 ≤ al * T.A.x + be * T.A.y + ga → 0 ≤ al * T.B.x + be * T.B.y + ga → 0 ≤ al * T.C.x + be * T.C.y + ga → 0 ≤ al * p.x + be * p.y + ga := by
  intro al be ga h1 h2 h3;have i : det T.A T.B T.C * (al * p.x + be * p.y + ga) = det T.B T.C p * (al * T.A.x + be * T.A.y + ga) + det T.C T.A p * (al * T.B.x + be * T.B.y + ga) + det T.A T.B p * (al * T.C.x + be * T.C.y + ga) := by unfold det; grind
  have m1 := Int.mul_nonneg q2 h1;have m2 := Int.mul_nonneg q3 h2;have m3 := Int.mul_nonneg q1 h3;exact (zBh hp).1 (by omega)
 unfold inBox at *;have k1 := key 1 0 0 (by omega) (by omega) (by omega);have k2 := key 0 1 0 (by omega) (by omega) (by omega);have k3 := key (-1) 0 W (by omega) (by omega) (by omega);have k4 := key 0 (-1) H (by omega) (by omega) (by omega);omega
theorem zDo (T : Tri3) (L : List Tri3) (q : Pt) : someC (T :: L) q ↔ isCnr T q ∨ someC L q := by
 unfold someC; simp
theorem zDn {L M : List Tri3} (p : L.Perm M) (q : Pt) : someC L q ↔ someC M q := by
 unfold someC; simp only [p.mem_iff]
theorem zF5 (L M : List Tri3) (q : Pt) : someC (L ++ M) q ↔ someC L q ∨ someC M q := by
 unfold someC;simp only [List.mem_append];constructor
 ·rintro ⟨T, h | h, k⟩
  ·exact .inl ⟨T, h, k⟩
  ·exact .inr ⟨T, h, k⟩
 ·rintro (⟨T, h, k⟩ | ⟨T, h, k⟩)
  ·exact ⟨T, .inl h, k⟩
  ·exact ⟨T, .inr h, k⟩
theorem zEs (q : Pt) : ¬ someC [] q := by unfold someC; simp
theorem cut_counts {W H : Int} {L : List Tri3} (h : Tiles W H L) (hW' : W < 16777216) (hH' : H < 16777216) {p : Pt} (hp : inBox W H p) {F : List Tri3} (hF : Spots W H L p F) :
    (∀ q, someC (F.flatMap (cutP p)) q ↔ someC F q ∨ q = p) ∧ ((F.flatMap (cutP p)).length = F.length + 2 ∧ ¬ atRim W H p ∨ (F.flatMap (cutP p)).length = F.length + 1 ∧ atRim W H p) := by
 have vb : ∀ q, inBox W H q → vld q = true := fun q hq => by rw [zAx]; unfold inBox at hq; omega
 have vp := vb p hp;cases hF with
 | within T hT hi =>
  have hc := Cyc.refl T;have va := vb _ (h.cyc_box hT hc);have vb' := vb _ (h.cyc_box hT hc.turn);have vc := vb _ (h.cyc_box hT hc.turn.turn);obtain ⟨i1, i2, i3⟩ := hi;have e : [T].flatMap (cutP p) = [mk T.A T.B p, mk T.B T.C p, mk T.C T.A p] := by
   simp only [List.flatMap_cons, List.flatMap_nil, List.append_nil];unfold cutP;rw [zB5 va vb' vp i1, zB5 vb' vc vp i2, zB5 vc va vp i3]; rfl
  rw [e];have m1 := (zB2 va vb' vp i1).1;have m2 := (zB2 vb' vc vp i2).1;have m3 := (zB2 vc va vp i3).1;refine ⟨fun q => ?_, .inl ⟨rfl, ins_norim (h.pos T hT) (h.box T hT) ⟨i1, i2, i3⟩⟩⟩;simp only [zDo, m1.cnr_iff, m2.cnr_iff, m3.cnr_iff, hc.cnr_iff, iff_false_intro (zEs q), or_false];constructor
  ·rintro ((k | k | k) | (k | k | k) | (k | k | k)) <;> simp [k]
  ·rintro ((k | k | k) | k) <;> simp [k]
 | rim T a b c hT hc hi hr =>
  have va := vb _ (h.cyc_box hT hc);have vb' := vb _ (h.cyc_box hT hc.turn);have vc := vb _ (h.cyc_box hT hc.turn.turn);have hrim := (zKr (h.cyc_pos hT hc) (h.cyc_box hT hc) (h.cyc_box hT hc.turn) hi).2 hr;obtain ⟨i1, i2, i3⟩ := hi;have e : ([T].flatMap (cutP p)).Perm [mk b c p, mk c a p] := by
   simp only [List.flatMap_cons, List.flatMap_nil, List.append_nil];have := zEc hc p;rw [zD4 va vb' vp i1, zB5 vb' vc vp i2, zB5 vc va vp i3] at this;exact this
  have m2 := (zB2 vb' vc vp i2).1;have m3 := (zB2 vc va vp i3).1;refine ⟨fun q => ?_, .inr ⟨by rw [e.length_eq]; rfl, hrim⟩⟩;rw [zDn e];simp only [zDo, m2.cnr_iff, m3.cnr_iff, hc.cnr_iff, iff_false_intro (zEs q), or_false];constructor
  ·rintro ((k | k | k) | (k | k | k)) <;> simp [k]
  ·rintro ((k | k | k) | k) <;> simp [k]
 | edge T S a b c d hT hS hc hd hi hr =>
  have va := vb _ (h.cyc_box hT hc);have vb' := vb _ (h.cyc_box hT hc.turn);have vc := vb _ (h.cyc_box hT hc.turn.turn);have vd := vb _ (h.cyc_box hS hd.turn.turn);have ho := zE0 (h.cyc_pos hT hc) (h.cyc_pos hS hd) hi;have hrim : ¬ atRim W H p := fun k => hr ((zKr (h.cyc_pos hT hc) (h.cyc_box hT hc) (h.cyc_box hT hc.turn) hi).1 k);obtain ⟨i1, i2, i3⟩ := hi;obtain ⟨o1, o2, o3⟩ := ho;have e : ([T, S].flatMap (cutP p)).Perm [mk b c p, mk c a p, mk a d p, mk d b p] := by
   simp only [List.flatMap_cons, List.flatMap_nil, List.append_nil];have e1 := zEc hc p;rw [zD4 va vb' vp i1, zB5 vb' vc vp i2, zB5 vc va vp i3] at e1;have e2 := zEc hd p;rw [zD4 vb' va vp o1, zB5 va vd vp o2, zB5 vd vb' vp o3] at e2;exact e1.append e2
  have m1 := (zB2 vb' vc vp i2).1;have m2 := (zB2 vc va vp i3).1;have m3 := (zB2 va vd vp o2).1;have m4 := (zB2 vd vb' vp o3).1;refine ⟨fun q => ?_, .inl ⟨by rw [e.length_eq]; rfl, hrim⟩⟩;rw [zDn e];simp only [zDo, m1.cnr_iff, m2.cnr_iff, m3.cnr_iff, m4.cnr_iff, hc.cnr_iff, hd.cnr_iff, iff_false_intro (zEs q), or_false];constructor
  ·rintro ((k | k | k) | (k | k | k) | (k | k | k) | (k | k | k)) <;> simp [k]
  ·rintro (((k | k | k) | (k | k | k)) | k) <;> simp [k]
theorem Good.takesF : ∀ {F : List Tri3} {E : Es} {M : List Tri3}, Good E (F ++ M) → Good (F.foldl takeT E) M
 | [], _, _, h => h
 | T :: F, E, M, h => by
  obtain ⟨_, h2⟩ := Good.take (E := E) (T := T) (M := F ++ M) h;exact Good.takesF (F := F) h2
end Go.Proofs.YtjkfakaehjmnbaaGreat
