/- Put together: Blt6, RowI, RowP, MesVb, MesVc, MesWb, MesWc, CdtT. -/
import Derived.Test.YtjkfakaehjmnbaaGreatRows
import Derived.Test.YtjkfakaehjmnbaaGreatPmf6
import Derived.Test.YtjkfakaehjmnbaaGreatPmf16
import Derived.Test.YtjkfakaehjmnbaaGreatPmf7
import Derived.Test.YtjkfakaehjmnbaaGreatPmf11
import Derived.Test.YtjkfakaehjmnbaaGreatPmf1
import Derived.WalkKit
import Derived.WalkSpells
import Derived.WalkLawsBesides
import Derived.Laws.Externs
import Derived.Deep.QuietTactic
import Derived.BigQuiet
import Derived.Lib.Hide
import Derived.Handy
import Derived.OwnWalk
import Derived.LoopN
import Derived.RegionTactic
import Derived.Deep.Slices
import Derived.Carry
import Derived.ProofKit
import Derived.Lib.SmallJoins
import Derived.OpenShut
import Derived.Test.YtjkfakaehjmnbaaGreatPmf10
import Derived.Test.YtjkfakaehjmnbaaGreatPmf14
import Derived.Test.YtjkfakaehjmnbaaGreatPmf15
import Derived.Test.YtjkfakaehjmnbaaGreatPmf12
set_option maxRecDepth 100000
set_option maxHeartbeats 8000000
namespace Go.Proofs.YtjkfakaehjmnbaaGreat
open Go.RowKit Go.Sort
attribute [local go_sem] rOper rAt rUpon cell_set sg_i64 sg_u64 alloc_cell alloc_frozen
attribute [local go_sem 10000] pt_eql pt_neq tri_eql
attribute [local irreducible] rWalk
def cI (x : Int) : List Value := [.int .i64 x]
theorem RowAt.num {w : World} {a : Option Addr} {P : List Int} (h : RowAt cI 1 w a P) {j : Nat} (hj : j < P.length) : ∃ ad, a = some ad ∧ ad.block < w.heap.size ∧ w.cell? (ad.add j) = some (.int .i64 P[j]) := by
 obtain ⟨ad, h1, h2, h3⟩ := h j P[j] (List.getElem?_eq_getElem hj);have h4 := h3 0 (.int .i64 P[j]) rfl;rw [Nat.mul_one, show ∀ A : Addr, A.add 0 = A from fun A => by unfold Addr.add; split <;> simp_all] at h4;exact ⟨ad, h1, h2, h4⟩
def PutPt (s : Int) (P : List Int) (q : Pt) : Prop := (q = ⟨0, 0⟩ ∨ q = ⟨s, 0⟩ ∨ q = ⟨s, s⟩ ∨ q = ⟨0, s⟩) ∨ ∃ x ∈ P, q = spt s x
end Go.Proofs.YtjkfakaehjmnbaaGreat
namespace Go.Proofs.YtjkfakaehjmnbaaGreat
open Go.RowKit Go.Sort Go.ChangeShapes Go.WideShapes Go.ChangeAt
section
variable {H : Type} {enc : TypeId × Value → H} {w : World} {base : Nat → Bool} {spare : Bool}
theorem trod_num {b0 : Nat} {fuel : Nat} {cs : List Value} {y : DataW H × List MemPlace} (hl : cs.length = 1) (hf : DataW.trod enc Tryz.prog w b0 base spare fuel 3 cs = some y) :
    ∃ x : Int, cs = cI x := by
 match cs, hl with
 | [v], _ =>
  obtain ⟨a0, h4, rfl, _⟩ := DataW.trod_int Tryz.underlying3 hf;simp at h4;exact ⟨a0, by unfold cI; rw [h4]⟩
theorem open_rowI {r : Reach} {b0 b1 : Nat} {v : Value} {d : DataW H} {p : List MemPlace} (hv : Value.okWide Tryz.prog w r b1 22 v) (h : DataW.Trod enc Tryz.prog w b0 base spare 22 v d p) :
    ∃ (a : Option Addr) (n cap : Nat) (L : List Int), v = .slice a n cap ∧ L.length = n ∧ RowAt cI 1 w a L := by
 obtain ⟨a0, n0, k0, rfl⟩ := okWide_slice Tryz.underlying22 hv;obtain ⟨fuel, hf⟩ := h;simp only [Value.cells] at hf;rcases Deep.open_slice Tryz.underlying22 hf with ⟨hcs, _⟩ | ⟨a, len, cap, m, n, D, Pl, hcs, hb, hl, hm, hmm, hx, hi⟩
 ·simp only [List.cons.injEq, Value.slice.injEq, and_true] at hcs;obtain ⟨rfl, rfl, rfl⟩ := hcs;exact ⟨none, 0, 0, [], rfl, rfl, fun j x hx => (by simp at hx)⟩
 ·simp only [List.cons.injEq, Value.slice.injEq, and_true] at hcs;obtain ⟨rfl, rfl, rfl⟩ := hcs;have hlm : n0 ≤ m := by rw [hmm]; split <;> omega
  have each : ∀ i, i < n0 → ∃ T : Int, ∀ j u, (cI T)[j]? = some u → w.cell? ((a.add (i * 1)).add j) = some u := fun i hin => by
   obtain ⟨cs', h1, h2⟩ := hi i (by omega);rw [show Tryz.prog.cellsOf 3 = 1 by kernel_rfl] at h1;obtain ⟨_, hlen, hcell⟩ := World.cells?_some h1;obtain ⟨T, rfl⟩ := trod_num hlen h2;refine ⟨T, fun j u hu => ?_⟩;rw [hcell j (by have := (List.getElem?_eq_some_iff.1 hu).1; rwa [hlen] at this)]; exact hu
  obtain ⟨f, hf2⟩ := Deep.choose_lt each;refine ⟨some a, n0, k0, (List.range n0).map f, rfl, by simp, fun j x hx => ?_⟩;rw [List.getElem?_map] at hx;obtain ⟨i, hi1, rfl⟩ := Option.map_eq_some_iff.1 hx;have hj : j < n0 ∧ i = j := by
   obtain ⟨h1, h2⟩ := List.getElem?_eq_some_iff.1 hi1;simp at h1 h2; exact ⟨h1, h2.symm⟩
  obtain ⟨hj, rfl⟩ := hj;have hc := hf2 i hj;refine ⟨a, rfl, ?_, hc⟩;have h4 := hc 0 _ rfl;unfold World.cell? at h4;rw [zAk, zAk] at h4;rcases Nat.lt_or_ge a.block w.heap.size with h' | h'
  ·exact h'
  ·simp [Array.getElem?_eq_none h'] at h4
end
section
variable {H : Type} {enc : TypeId × Value → H} {w : World} {base : Nat → Bool} {spare : Bool}
theorem trod_two {b0 : Nat} {fuel : Nat} {cs : List Value} {y : DataW H × List MemPlace} (hl : cs.length = 2) (hf : DataW.trod enc Tryz.prog w b0 base spare fuel 45 cs = some y) :
    ∃ x : Pt, cs = cP x := by
 match cs, hl with
 | [v0, v1], _ =>
  obtain ⟨xs, m, rfl, _, _, hx, hi⟩ := DataW.trod_array Tryz.underlying45 hf;have e1 : Tryz.prog.cellsOf 3 = 1 := by kernel_rfl
  have h0 := hi 0 (by omega);have h1 := hi 1 (by omega);rw [e1] at h0 h1;simp at h0 h1;rw [List.getElem?_eq_getElem (by omega)] at h0 h1;obtain ⟨a0, k0, _⟩ := DataW.trod_int Tryz.underlying3 h0;obtain ⟨a1, k1, _⟩ := DataW.trod_int Tryz.underlying3 h1;simp at k0 k1;exact ⟨⟨a0, a1⟩, by unfold cP; rw [k0, k1]⟩
theorem open_rowP2 {r : Reach} {b0 b1 : Nat} {v : Value} {d : DataW H} {p : List MemPlace} (hv : Value.okWide Tryz.prog w r b1 23 v) (h : DataW.Trod enc Tryz.prog w b0 base spare 23 v d p) :
    ∃ (a : Option Addr) (n cap : Nat) (L : List Pt), v = .slice a n cap ∧ L.length = n ∧ RowAt cP 2 w a L := by
 obtain ⟨a0, n0, k0, rfl⟩ := okWide_slice Tryz.underlying23 hv;obtain ⟨fuel, hf⟩ := h;simp only [Value.cells] at hf;rcases Deep.open_slice Tryz.underlying23 hf with ⟨hcs, _⟩ | ⟨a, len, cap, m, n, D, Pl, hcs, hb, hl, hm, hmm, hx, hi⟩
 ·simp only [List.cons.injEq, Value.slice.injEq, and_true] at hcs;obtain ⟨rfl, rfl, rfl⟩ := hcs;exact ⟨none, 0, 0, [], rfl, rfl, fun j x hx => (by simp at hx)⟩
 ·simp only [List.cons.injEq, Value.slice.injEq, and_true] at hcs;obtain ⟨rfl, rfl, rfl⟩ := hcs;have hlm : n0 ≤ m := by rw [hmm]; split <;> omega
  have each : ∀ i, i < n0 → ∃ T : Pt, ∀ j u, (cP T)[j]? = some u → w.cell? ((a.add (i * 2)).add j) = some u := fun i hin => by
   obtain ⟨cs', h1, h2⟩ := hi i (by omega);rw [show Tryz.prog.cellsOf 45 = 2 by kernel_rfl] at h1;obtain ⟨_, hlen, hcell⟩ := World.cells?_some h1;obtain ⟨T, rfl⟩ := trod_two hlen h2;refine ⟨T, fun j u hu => ?_⟩;rw [hcell j (by have := (List.getElem?_eq_some_iff.1 hu).1; rwa [hlen] at this)]; exact hu
  obtain ⟨f, hf2⟩ := Deep.choose_lt each;refine ⟨some a, n0, k0, (List.range n0).map f, rfl, by simp, fun j x hx => ?_⟩;rw [List.getElem?_map] at hx;obtain ⟨i, hi1, rfl⟩ := Option.map_eq_some_iff.1 hx;have hj : j < n0 ∧ i = j := by
   obtain ⟨h1, h2⟩ := List.getElem?_eq_some_iff.1 hi1;simp at h1 h2; exact ⟨h1, h2.symm⟩
  obtain ⟨hj, rfl⟩ := hj;have hc := hf2 i hj;refine ⟨a, rfl, ?_, hc⟩;have h4 := hc 0 _ rfl;unfold World.cell? at h4;rw [zAk, zAk] at h4;rcases Nat.lt_or_ge a.block w.heap.size with h' | h'
  ·exact h'
  ·simp [Array.getElem?_eq_none h'] at h4
end
end Go.Proofs.YtjkfakaehjmnbaaGreat
namespace Go.Proofs.YtjkfakaehjmnbaaGreat
open Go.RowKit Go.Sort
attribute [local go_sem] rOper rAt rUpon cell_set sg_i64 sg_u64 alloc_cell alloc_frozen
attribute [local go_sem 10000] pt_eql pt_neq tri_eql
attribute [local irreducible] rWalk
attribute [local go_sem 10000] run_upto_tri
theorem zI6 {w : World} {a : Option Addr} {L : List Tri3} (h : RowAt cT 6 w a L) (k : Nat) : RowAt cT 6 w a (L.take k) := fun j x hx => by
 refine h j x ?_;rw [List.getElem?_take] at hx;split at hx
 ·exact hx
 ·cases hx
theorem zH8 : ∀ (L : List Tri3) (E : Es), (takeRun E L).1 ≤ L.length
 | [], _ => Nat.le_refl _
 | T :: L, E => by
  unfold takeRun;split
  ·have := zH8 L (takeT E T); simp only [List.length_cons]; omega
  ·exact Nat.zero_le _
theorem zHd : ∀ (L : List Tri3) (E : Es), (putRun E L).1 ≤ L.length
 | [], _ => Nat.le_refl _
 | T :: L, E => by
  unfold putRun;split
  ·have := zHd L (putT E T); simp only [List.length_cons]; omega
  ·exact Nat.zero_le _
theorem replace_none (mb b : Nat) (E : Es) (a1 a2 : Option Addr) (cap1 cap2 n1 n2 : Nat) (L1 : List Tri3) (hn1 : L1.length = n1) (hc1 : n1 ≤ cap1) (hm1 : n1 ≤ 1000000) (hok1 : ∀ T ∈ L1, okT T) (h1 : (takeRun E L1).1 < n1) (w : World) (Bm : Box w mb [.map (some b)] 98) (Hm : HoldsMap eW eT okW w b E) (Hr1 : RowAt cT 6 w a1 L1) :
    Calls Tryz.prog 20 #[.pointer (some ⟨mb, 0, none⟩), .slice a1 n1 cap1, .slice a2 n2 cap2] w fun e w' => e = .returned (.int .i64 16) ∧ w.grownBy w' (some b) ∧ HoldsMap eW eT okW w' b (putRun (takeRun E L1).2 (L1.take (takeRun E L1).1)).2 := by
 have c1 := zEx mb b E a1 cap1 n1 L1 (Lib.hid hn1) hm1 hok1;generalize hk : (takeRun E L1).1 = k at *
 generalize (takeRun E L1).2 = F at *
 have c2 := zEa mb b F a1 cap1 k (L1.take k) (Lib.hid (by rw [List.length_take]; omega)) (by omega) (fun T hT => hok1 T (List.mem_of_mem_take hT));generalize (putRun F (L1.take k)).1 = j at *
 generalize hL2 : L1.take k = L2 at *
 have HL2 := Lib.hid hL2;generalize (putRun F L2).2 = G at *
 have d1 : decide ((k : Int) < (n1 : Int)) = true := by simp; omega
 have d2 : (k : Int) < (n1 : Int) := by omega
 have hkc : k ≤ cap1 := by omega
 clear hok1 hn1 hL2 hk
 go_enter Tryz.func20, Tryz.ntmps20
 go_wp2_with fail;refine (c1 _ Bm Hm Hr1).mono ?_;rintro e w1 ⟨rfl, hg, H1⟩;replace Bm := Bm.turn Hm hg;have Hr2 := zI6 (Hr1.turn cT_ne Hm hg) k;rw [HL2.out] at Hr2;clear Hm Hr1 c1 HL2;go_wp2_with fail;refine (c2 _ Bm H1 Hr2).mono ?_;rintro e w2 ⟨rfl, hh, H2⟩;replace hg := zA9 hg hh;clear hh;go_wp2
 go_ret
 exact ⟨rfl, hg, H2⟩
theorem replace_bad (mb b : Nat) (E : Es) (a1 a2 : Option Addr) (cap1 cap2 n1 n2 : Nat) (L1 L2 : List Tri3) (hn1 : L1.length = n1) (hm1 : n1 ≤ 1000000) (hok1 : ∀ T ∈ L1, okT T) (hn2 : L2.length = n2) (hc2 : n2 ≤ cap2) (hm2 : n2 ≤ 1000000) (hok2 : ∀ T ∈ L2, okT T) (h1 : (takeRun E L1).1 = n1) (h2 : (putRun (takeRun E L1).2 L2).1 < n2) (w : World) (Bm : Box w mb [.map (some b)] 98) (Hm : HoldsMap eW eT okW w b E) (Hr1 : RowAt cT 6 w a1 L1) (Hr2 : RowAt cT 6 w a2 L2) :
    Calls Tryz.prog 20 #[.pointer (some ⟨mb, 0, none⟩), .slice a1 n1 cap1, .slice a2 n2 cap2] w fun e w' => e = .returned (.int .i64 2) ∧ w.grownBy w' (some b) ∧ HoldsMap eW eT okW w' b (putRun (takeRun (putRun (takeRun E L1).2 L2).2 (L2.take (putRun (takeRun E L1).2 L2).1)).2 L1).2 := by
 have c1 := zEx mb b E a1 cap1 n1 L1 (Lib.hid hn1) hm1 hok1;rw [h1] at c1;generalize (takeRun E L1).2 = F at *
 have c2 := zEa mb b F a2 cap2 n2 L2 (Lib.hid hn2) hm2 hok2;generalize (putRun F L2).1 = k at *
 generalize (putRun F L2).2 = G at *
 have c3 := zEx mb b G a2 cap2 k (L2.take k) (Lib.hid (by rw [List.length_take]; omega)) (by omega) (fun T hT => hok2 T (List.mem_of_mem_take hT));generalize hL3 : L2.take k = L3 at *
 have HL3 := Lib.hid hL3;generalize (takeRun G L3).1 = j3 at *
 generalize (takeRun G L3).2 = G3 at *
 have c4 := zEa mb b G3 a1 cap1 n1 L1 (Lib.hid hn1) hm1 hok1;generalize (putRun G3 L1).1 = j4 at *
 generalize (putRun G3 L1).2 = G4 at *
 have d0 : decide ((n1 : Int) < (n1 : Int)) = false := by simp
 have d1 : decide ((k : Int) < (n2 : Int)) = true := by simp; omega
 have d2 : (k : Int) < (n2 : Int) := by omega
 have hkc : k ≤ cap2 := by omega
 clear hok1 hok2 hn1 hn2 hL3 h1
 go_enter Tryz.func20, Tryz.ntmps20
 go_wp2_with fail;refine (c1 _ Bm Hm Hr1).mono ?_;rintro e w1 ⟨rfl, hg, H1⟩;replace Bm := Bm.turn Hm hg;replace Hr1 := Hr1.turn cT_ne Hm hg;replace Hr2 := Hr2.turn cT_ne Hm hg;clear Hm c1;go_wp2_with fail;refine (c2 _ Bm H1 Hr2).mono ?_;rintro e w2 ⟨rfl, hh, H2⟩;replace hg := zA9 hg hh;replace Bm := Bm.turn H1 hh;replace Hr1 := Hr1.turn cT_ne H1 hh;have Hr3 := zI6 (Hr2.turn cT_ne H1 hh) k;rw [HL3.out] at Hr3;clear hh H1 c2 Hr2 HL3;go_wp2_with fail;refine (c3 _ Bm H2 Hr3).mono ?_;rintro e w3 ⟨rfl, hh, H3⟩;replace hg := zA9 hg hh;replace Bm := Bm.turn H2 hh;replace Hr1 := Hr1.turn cT_ne H2 hh;clear hh H2 c3 Hr3;go_wp2_with fail;refine (c4 _ Bm H3 Hr1).mono ?_;rintro e w4 ⟨rfl, hh, H4⟩;replace hg := zA9 hg hh;clear hh;go_wp2
 go_ret
 exact ⟨rfl, hg, H4⟩
end Go.Proofs.YtjkfakaehjmnbaaGreat
namespace Go.Proofs.YtjkfakaehjmnbaaGreat
open Go.RowKit
theorem Good.takeUp : ∀ {L1 : List Tri3} {E : Es} {L : List Tri3}, Good E L → ∃ M, L.Perm (L1.take (takeRun E L1).1 ++ M) ∧ Good (takeRun E L1).2 M
 | [], E, L, h => ⟨L, by simp, h⟩
 | T :: L1, E, L, h => by
  unfold takeRun;by_cases hh : hasE E T = true
  ·rw [if_pos hh];have hm := h.has.1 hh;obtain ⟨M0, hM0⟩ : ∃ M0, L.Perm (T :: M0) := ⟨L.erase T, List.perm_cons_erase hm⟩;obtain ⟨_, h2⟩ := Good.take (h.order hM0);obtain ⟨M, p, g⟩ := Good.takeUp (L1 := L1) h2;exact ⟨M, by simp only [List.take_succ_cons, List.cons_append]; exact hM0.trans (p.cons T), g⟩
  ·rw [if_neg hh];exact ⟨L, by simp, h⟩
theorem fits_free {E : Es} {M : List Tri3} (h : Good E M) {T : Tri3} (hf : fitsE E T = true) : valT T = true ∧ ∀ w ∈ ways T, w ∉ M.flatMap ways := by
 obtain ⟨h1, h2, h3, hv⟩ := zHm hf;refine ⟨hv, fun w hw => ?_⟩;simp only [ways, List.mem_cons, List.not_mem_nil, or_false] at hw;rcases hw with rfl | rfl | rfl
 ·exact h.get_none.1 h1
 ·exact h.get_none.1 h2
 ·exact h.get_none.1 h3
theorem Good.putUp : ∀ {L2 : List Tri3} {E : Es} {M : List Tri3}, Good E M → Good (putRun E L2).2 (L2.take (putRun E L2).1 ++ M)
 | [], E, M, h => by simpa [putRun] using h
 | T :: L2, E, M, h => by
  unfold putRun;by_cases hh : fitsE E T = true
  ·rw [if_pos hh];obtain ⟨hv, hn⟩ := fits_free h hh;have h2 := (Good.put h hv hn).2;have := Good.putUp (L2 := L2) h2;simp only [List.take_succ_cons, List.cons_append];exact this.order List.perm_middle
  ·rw [if_neg hh]
   simpa using h
def Repl (E : Es) (L L1 L2 : List Tri3) (r : Int) (L' : List Tri3) : Prop :=
 (r = 16 ∧ (takeRun E L1).1 < L1.length ∧ L'.Perm L) ∨
 (r = 2 ∧ (takeRun E L1).1 = L1.length ∧ (putRun (takeRun E L1).2 L2).1 < L2.length ∧ L'.Perm L) ∨
 (r = 0 ∧ (takeRun E L1).1 = L1.length ∧ (putRun (takeRun E L1).2 L2).1 = L2.length ∧ ∃ M, L.Perm (L1 ++ M) ∧ L'.Perm (L2 ++ M))
theorem zBl (mb b : Nat) (E : Es) (L : List Tri3) (g : Good E L) (a1 a2 : Option Addr) (cap1 cap2 n1 n2 : Nat) (L1 L2 : List Tri3) (hn1 : L1.length = n1) (hc1 : n1 ≤ cap1) (hm1 : n1 ≤ 1000000) (hok1 : ∀ T ∈ L1, okT T) (hn2 : L2.length = n2) (hc2 : n2 ≤ cap2) (hm2 : n2 ≤ 1000000) (hok2 : ∀ T ∈ L2, okT T) (w : World) (Bm : Box w mb [.map (some b)] 98) (Hm : HoldsMap eW eT okW w b E) (Hr1 : RowAt cT 6 w a1 L1) (Hr2 : RowAt cT 6 w a2 L2) :
    Calls Tryz.prog 20 #[.pointer (some ⟨mb, 0, none⟩), .slice a1 n1 cap1, .slice a2 n2 cap2] w fun e w' => ∃ r E' L', e = .returned (.int .i64 r) ∧ w.grownBy w' (some b) ∧ HoldsMap eW eT okW w' b E' ∧ Good E' L' ∧ Repl E L L1 L2 r L' := by
 obtain ⟨M, pM, gM⟩ := Good.takeUp (L1 := L1) g;have tl := zH8 L1 E;by_cases h1 : (takeRun E L1).1 = n1
 ·have e1 : L1.take (takeRun E L1).1 = L1 := List.take_of_length_le (by omega);rw [e1] at pM;have pl := zHd L2 (takeRun E L1).2;have gG := Good.putUp (L2 := L2) gM;by_cases h2 : (putRun (takeRun E L1).2 L2).1 = n2
  ·have e2 : L2.take (putRun (takeRun E L1).2 L2).1 = L2 := List.take_of_length_le (by omega);rw [e2] at gG;refine (zHc mb b E a1 a2 cap1 cap2 n1 n2 L1 L2 (Lib.hid hn1) hm1 hok1 (Lib.hid hn2) hm2 hok2 h1 h2 w Bm Hm Hr1 Hr2).mono ?_;rintro e w' ⟨rfl, hg, H'⟩;exact ⟨0, _, _, rfl, hg, H', gG, .inr (.inr ⟨rfl, by omega, by omega, M, pM, .refl _⟩)⟩
  ·refine (replace_bad mb b E a1 a2 cap1 cap2 n1 n2 L1 L2 hn1 hm1 hok1 hn2 hc2 hm2 hok2 h1 (by omega) w Bm Hm Hr1 Hr2).mono ?_;rintro e w' ⟨rfl, hg, H'⟩;have g3 := (Good.takes (F := L2.take (putRun (takeRun E L1).2 L2).1) (M := M) gG).2;have n4 : ((L1 ++ M).flatMap ways).Nodup := (zB6 pM).nodup_iff.1 g.once;have g4 := (Good.puts (I := L1) (M := M) g3 (fun T hT => g.val T (pM.mem_iff.2 (by simp [hT]))) n4).2;exact ⟨2, _, _, rfl, hg, H', g4, .inr (.inl ⟨rfl, by omega, by omega, pM.symm⟩)⟩
 ·refine (replace_none mb b E a1 a2 cap1 cap2 n1 n2 L1 hn1 hc1 hm1 hok1 (by omega) w Bm Hm Hr1).mono ?_;rintro e w' ⟨rfl, hg, H'⟩;have n4 : ((L1.take (takeRun E L1).1 ++ M).flatMap ways).Nodup := (zB6 pM).nodup_iff.1 g.once;have g4 := (Good.puts (I := L1.take (takeRun E L1).1) (M := M) gM (fun T hT => g.val T (pM.mem_iff.2 (by simp [hT]))) n4).2;exact ⟨16, _, _, rfl, hg, H', g4, .inl ⟨rfl, by omega, pM.symm⟩⟩
end Go.Proofs.YtjkfakaehjmnbaaGreat
namespace Go.Proofs.YtjkfakaehjmnbaaGreat
open Go.RowKit Go.Sort
attribute [local go_sem] rOper rAt rUpon cell_set sg_i64 sg_u64 alloc_cell alloc_frozen
attribute [local go_sem 10000] pt_eql pt_neq tri_eql
attribute [local irreducible] rWalk
theorem flip_g (mb b : Nat) (E : Es) (p q : Pt) (hk : okW (p, q)) (L : List Tri3) (g : Good E L) (S R U V : Tri3) (C D : Pt) (h0 : getE E (p, q) = some S) (h1 : getE E (q, p) = some R) (hC : apx S p q = C) (hD : apx R p q = D) (hm : meetS p q C D = 1) (hU : mk C p D = U) (hV : mk D q C = V) (hS : okT S) (hR : okT R) (hu : okT U) (hv : okT V) (w : World) (Bm : Box w mb [.map (some b)] 98) (Hm : HoldsMap eW eT okW w b E) :
    Calls Tryz.prog 17 #[.pointer (some ⟨mb, 0, none⟩), .agg #[.int .i64 p.x, .int .i64 p.y], .agg #[.int .i64 q.x, .int .i64 q.y]] w fun e w' => ∃ r E' L', e = .returned (.int .i64 r) ∧ w.grownBy w' (some b) ∧ HoldsMap eW eT okW w' b E' ∧ Good E' L' ∧ Repl E L [S, R] [U, V] r L' := by
 have cl := zGw mb b E p q S h0 hk;have cr := zGw mb b E q p R h1 ⟨hk.2, hk.1⟩;clear h0 h1;have ca := zEe S p q;have cb := zEe R p q;have cm := zHy p q C D;have cu := zEr C p D;have cv := zEr D q C;rw [hU] at cu;rw [hV] at cv;rw [hC] at ca;rw [hD] at cb;rw [hm] at cm;have cp := fun a1 a2 w B H R1 R2 => zBl mb b E L g a1 a2 2 2 2 2 [S, R] [U, V] rfl (by decide) (by decide) (by simpa using And.intro hS hR) rfl (by decide) (by decide) (by simpa using And.intro hu hv) w B H R1 R2;have HGG := Lib.hid g;clear hU hV hC hD hm hS hR hu hv g
 go_enter Tryz.func17, Tryz.ntmps17
 go_wp2_with fail;refine zA1 fun W1 hW => ?_;obtain ⟨Bp, Bq, hw⟩ := N2 hW;clear hW;refine (cl _ (Bm.ee hw) (Hm.ee hw)).mono ?_;rintro e w2 ⟨rfl, hb⟩;obtain ⟨Bp, Bq, hw, -⟩ := X2 Bp Bq hw hb;clear hb;have Fp := Bp.f;have Fq := Bq.f;go_wp2_with fail;clear Fp Fq;refine zA1 fun W3 hW => ?_;obtain ⟨bks, hbs⟩ : ∃ b, w2.heap.size = b := ⟨_, rfl⟩;rw [hbs];obtain ⟨lps, lqs, fs, Bs, Bp, Bq, hw⟩ := M2 hW hbs Bp Bq hw;clear hW hbs;refine (cr _ (Bm.ee hw) (Hm.ee hw)).mono ?_;rintro e w4 ⟨rfl, hb⟩;obtain ⟨Bp, Bq, Bs, hw, -⟩ := X3 Bp Bq Bs hw hb;clear hb;have Fp := Bp.f;have Fq := Bq.f;have Fs := Bs.f;go_wp2_with fail;clear Fp Fq Fs;refine zA2 fun W5 hW => ?_;obtain ⟨bkr, hbr⟩ : ∃ b, w4.heap.size = b := ⟨_, rfl⟩;rw [hbr];obtain ⟨lpr, lqr, lsr, fr, Br, Bp, Bq, Bs, hw⟩ := M3 hW hbr Bp Bq Bs hw;clear hW hbr;have g_pqsr := J4 Bp.cells Bq.cells Bs.cells Br.cells;refine zAq 10 [⟨8, 10, 30, [.int .i64 0, .int .i64 0]⟩, ⟨9, 11, 30, [.int .i64 0, .int .i64 0]⟩] ?_ (by kernel_rfl) (by decide) (by decide) (by kernel_rfl) (by decide) (C := fun w' => ∃ p : Regrown, w' = grow (redrawn W5 p.d) p.os) rgB ?_
 ·simp only [List.forall_mem_cons];refine ⟨⟨_, rfl, rfl, rfl, rfl, fun ρ W => by simp [execOp, go_sem]⟩, ⟨_, rfl, rfl, rfl, rfl, fun ρ W => by simp [execOp, go_sem]⟩, fun _ h => (by cases h)⟩
 simp only [List.take_succ_cons, List.take_zero, List.map_cons, List.map_nil, dropIdx, List.contains_cons, List.contains_nil, Nat.reduceBEq, Nat.reduceAdd, Bool.or_false, Bool.or_true, Bool.or_self, Bool.false_eq_true, if_true, if_false];repeat (first | (refine zA0 (Eq.refl false) ?_; simp only [Act.put, sT2, sT1, sT0]) | (refine rWalk_step (fun K hK => ?_); go_simp; first | (refine hK _ ?_; clear hK K) | (apply Exists.intro; refine ⟨fun _ => ?_, hK _ ?_⟩; (first | with_reducible exact toExt ca _ | with_reducible exact toExt cb _); clear hK K)))
 refine rWalk_nil ?_;intro w6 β hL;simp only [putD, List.drop_succ_cons, List.drop_zero];have qc := hL.box ⟨8, 10, 30, [.int .i64 0, .int .i64 0]⟩ (by simp) (by simp);simp only at qc;have qd := hL.box ⟨9, 11, 30, [.int .i64 0, .int .i64 0]⟩ (by simp) (by simp);simp only at qd;have ncd := hL.apart 10 (by simp) 11 (by simp) (by decide);have ndc := hL.apart 11 (by simp) 10 (by simp) (by decide);have hb := hL.below;have lp := Bp.lt;have lq := Bq.lt;have ls := Bs.lt;have lr := Br.lt;clear g_pqsr;replace Bp := Bp.ee hb;replace Bq := Bq.ee hb;replace Bs := Bs.ee hb;replace Br := Br.ee hb;have hw0 := hw.size;replace hw := upB hw hb;clear hb hL;generalize β 10 = bkc at *
 generalize β 11 = bkd at *
 clear β;obtain ⟨fc, Bc⟩ := qc;obtain ⟨fd, Bd⟩ := qd;simp only [Act.put];have Fc := Bc.f;have Fd := Bd.f;have Fp := Bp.f;have Fq := Bq.f;have Fs := Bs.f;have Fr := Br.f;have epbkc : (w.heap.size = bkc) = False := by simp; omega
 have epbkc' : (bkc = w.heap.size) = False := by simp; omega
 have epbkd : (w.heap.size = bkd) = False := by simp; omega
 have epbkd' : (bkd = w.heap.size) = False := by simp; omega
 have eqbkc : (w.heap.size + 1 = bkc) = False := by simp; omega
 have eqbkc' : (bkc = w.heap.size + 1) = False := by simp; omega
 have eqbkd : (w.heap.size + 1 = bkd) = False := by simp; omega
 have eqbkd' : (bkd = w.heap.size + 1) = False := by simp; omega
 have esbkc : (bks = bkc) = False := by simp; omega
 have esbkc' : (bkc = bks) = False := by simp; omega
 have esbkd : (bks = bkd) = False := by simp; omega
 have esbkd' : (bkd = bks) = False := by simp; omega
 have erbkc : (bkr = bkc) = False := by simp; omega
 have erbkc' : (bkc = bkr) = False := by simp; omega
 have erbkd : (bkr = bkd) = False := by simp; omega
 have erbkd' : (bkd = bkr) = False := by simp; omega
 have ebkcbkd : (bkc = bkd) = False := by simp; omega
 have ebkdbkc : (bkd = bkc) = False := by simp; omega
 go_wp2_with fail;refine zA1 fun W7 hW => ?_;have Cp : Box W7 (w.heap.size) [.int .i64 p.x, .int .i64 p.y] 30 := by rw [hW]; exact ((((Bp.sn bkc 0 (.int .i64 C.x) (by first | assumption | omega)).sn bkc 1 (.int .i64 C.y) (by first | assumption | omega)).sn bkd 0 (.int .i64 D.x) (by first | assumption | omega)).sn bkd 1 (.int .i64 D.y) (by first | assumption | omega))
 have Cq : Box W7 (w.heap.size + 1) [.int .i64 q.x, .int .i64 q.y] 30 := by rw [hW]; exact ((((Bq.sn bkc 0 (.int .i64 C.x) (by first | assumption | omega)).sn bkc 1 (.int .i64 C.y) (by first | assumption | omega)).sn bkd 0 (.int .i64 D.x) (by first | assumption | omega)).sn bkd 1 (.int .i64 D.y) (by first | assumption | omega))
 have Cs : Box W7 (bks) [.int .i64 S.A.x, .int .i64 S.A.y, .int .i64 S.B.x, .int .i64 S.B.y, .int .i64 S.C.x, .int .i64 S.C.y] 43 := by rw [hW]; exact ((((Bs.sn bkc 0 (.int .i64 C.x) (by first | assumption | omega)).sn bkc 1 (.int .i64 C.y) (by first | assumption | omega)).sn bkd 0 (.int .i64 D.x) (by first | assumption | omega)).sn bkd 1 (.int .i64 D.y) (by first | assumption | omega))
 have Cr : Box W7 (bkr) [.int .i64 R.A.x, .int .i64 R.A.y, .int .i64 R.B.x, .int .i64 R.B.y, .int .i64 R.C.x, .int .i64 R.C.y] 43 := by rw [hW]; exact ((((Br.sn bkc 0 (.int .i64 C.x) (by first | assumption | omega)).sn bkc 1 (.int .i64 C.y) (by first | assumption | omega)).sn bkd 0 (.int .i64 D.x) (by first | assumption | omega)).sn bkd 1 (.int .i64 D.y) (by first | assumption | omega))
 have Cc : Box W7 (bkc) [.int .i64 C.x, .int .i64 C.y] 30 := by rw [hW]; exact ((((Bc.set 0 (.int .i64 C.x)).set 1 (.int .i64 C.y)).sn bkd 0 (.int .i64 D.x) (by first | assumption | omega)).sn bkd 1 (.int .i64 D.y) (by first | assumption | omega))
 have Cd : Box W7 (bkd) [.int .i64 D.x, .int .i64 D.y] 30 := by rw [hW]; exact ((((Bd.sn bkc 0 (.int .i64 C.x) (by first | assumption | omega)).sn bkc 1 (.int .i64 C.y) (by first | assumption | omega)).set 0 (.int .i64 D.x)).set 1 (.int .i64 D.y))
 replace hw : Below w.heap.size w W7 := by have hl := hw.size; rw [hW]; go_grown
 clear Fc Fd;clear Fp Fq Fs Fr epbkc epbkc' epbkd epbkd' eqbkc eqbkc' eqbkd eqbkd' esbkc esbkc' esbkd esbkd' erbkc erbkc' erbkd erbkd' ebkcbkd ebkdbkc;clear hW Bp Bq Bs Br Bc Bd;have Bp := Cp;have Bq := Cq;have Bs := Cs;have Br := Cr;have Bc := Cc;have Bd := Cd;clear Cp Cq Cs Cr Cc Cd;refine (cm _).mono ?_;rintro e w8 ⟨rfl, hb⟩;obtain ⟨Bp, Bq, Bs, Br, Bc, Bd, hw, -⟩ := X6 Bp Bq Bs Br Bc Bd hw hb;clear hb;have Fp := Bp.f;have Fq := Bq.f;have Fs := Bs.f;have Fr := Br.f;have Fc := Bc.f;have Fd := Bd.f;go_wp2_with fail;refine (cu _).mono ?_;rintro e w9 ⟨rfl, hb⟩;clear Fp Fq Fs Fr Fc Fd;obtain ⟨Bp, Bq, Bs, Br, Bc, Bd, hw, -⟩ := X6 Bp Bq Bs Br Bc Bd hw hb;clear hb;have Fp := Bp.f;have Fq := Bq.f;have Fs := Bs.f;have Fr := Br.f;have Fc := Bc.f;have Fd := Bd.f;go_wp2_with fail;clear Fp Fq Fs Fr Fc Fd;refine zA1 fun W10 hW => ?_;obtain ⟨bku, hbu⟩ : ∃ b, w9.heap.size = b := ⟨_, rfl⟩;rw [hbu];obtain ⟨lpu, lqu, lsu, lru, lcu, ldu, fu, Bu, Bp, Bq, Bs, Br, Bc, Bd, hw⟩ := M6 hW hbu Bp Bq Bs Br Bc Bd hw;clear hW hbu;refine (cv _).mono ?_;rintro e w11 ⟨rfl, hb⟩;obtain ⟨Bp, Bq, Bs, Br, Bc, Bd, Bu, hw, -⟩ := X7 Bp Bq Bs Br Bc Bd Bu hw hb;clear hb;have Fp := Bp.f;have Fq := Bq.f;have Fs := Bs.f;have Fr := Br.f;have Fc := Bc.f;have Fd := Bd.f;have Fu := Bu.f;have es4 : (bks = w11.heap.size + 1) = False := by have := Bs.lt; simp; omega
 have es8 : (bks = w11.heap.size + 1 + 1) = False := by have := Bs.lt; simp; omega
 have er4 : (bkr = w11.heap.size + 1) = False := by have := Br.lt; simp; omega
 have er8 : (bkr = w11.heap.size + 1 + 1) = False := by have := Br.lt; simp; omega
 have eu4 : (bku = w11.heap.size + 1) = False := by have := Bu.lt; simp; omega
 have eu8 : (bku = w11.heap.size + 1 + 1) = False := by have := Bu.lt; simp; omega
 go_wp2_with fail;have row : ∀ {w : World} {g : Nat} {X Y : Tri3}, Box w g (cT X ++ cT Y) 43 → RowAt cT 6 w (some ⟨g, 0, none⟩) [X, Y] := fun {w g X Y} h => zAt (S := [X, Y]) (by simpa using h);refine zA1 fun W12 hW => ?_;have R1 : RowAt cT 6 W12 (some ⟨w11.heap.size + 1, 0, none⟩) [S, R] := row (by rw [hW]; exact (Box.new (by simp)).old _);have R2 : RowAt cT 6 W12 (some ⟨w11.heap.size + 1 + 1, 0, none⟩) [U, V] := row (by rw [hW]; exact Box.new (by simp));replace hw : Below w.heap.size w W12 := by have hl := hw.size; rw [hW]; go_grown
 clear hW row;have hlt := Hm.lt;refine (cp _ _ _ (Bm.ee hw) (Hm.ee hw) R1 R2).mono ?_;rintro e w13 ⟨r, E9, L9, rfl, hg, H2, G2, R9⟩;replace hg := zHs hw hg;clear Fp Fq Fs Fr Fc Fd Fu;go_wp2
 go_ret
 exact ⟨r, E9, L9, rfl, hg, H2, G2, R9⟩
theorem flip_m (mb b : Nat) (E : Es) (p q : Pt) (hk : okW (p, q)) (S R : Tri3) (C D : Pt) (h0 : getE E (p, q) = some S) (h1 : getE E (q, p) = some R) (hC : apx S p q = C) (hD : apx R p q = D) (hm : ¬ meetS p q C D = 1) (w : World) (Bm : Box w mb [.map (some b)] 98) (Hm : HoldsMap eW eT okW w b E) :
    Calls Tryz.prog 17 #[.pointer (some ⟨mb, 0, none⟩), .agg #[.int .i64 p.x, .int .i64 p.y], .agg #[.int .i64 q.x, .int .i64 q.y]] w fun e w' => e = .returned (.int .i64 2) ∧ Below w.heap.size w w' := by
 have cl := zGw mb b E p q S h0 hk;have cr := zGw mb b E q p R h1 ⟨hk.2, hk.1⟩;clear h0 h1;have ca := zEe S p q;have cb := zEe R p q;have cm := zHy p q C D;rw [hC] at ca;rw [hD] at cb;generalize meetS p q C D = z at *
 have hz : (z != 1) = true := by simpa using hm
 clear hC hD
 go_enter Tryz.func17, Tryz.ntmps17
 go_wp2_with fail;refine zA1 fun W1 hW => ?_;obtain ⟨Bp, Bq, hw⟩ := N2 hW;clear hW;refine (cl _ (Bm.ee hw) (Hm.ee hw)).mono ?_;rintro e w2 ⟨rfl, hb⟩;obtain ⟨Bp, Bq, hw, -⟩ := X2 Bp Bq hw hb;clear hb;have Fp := Bp.f;have Fq := Bq.f;go_wp2_with fail;clear Fp Fq;refine zA1 fun W3 hW => ?_;obtain ⟨bks, hbs⟩ : ∃ b, w2.heap.size = b := ⟨_, rfl⟩;rw [hbs];obtain ⟨lps, lqs, fs, Bs, Bp, Bq, hw⟩ := M2 hW hbs Bp Bq hw;clear hW hbs;refine (cr _ (Bm.ee hw) (Hm.ee hw)).mono ?_;rintro e w4 ⟨rfl, hb⟩;obtain ⟨Bp, Bq, Bs, hw, -⟩ := X3 Bp Bq Bs hw hb;clear hb;have Fp := Bp.f;have Fq := Bq.f;have Fs := Bs.f;go_wp2_with fail;clear Fp Fq Fs;refine zA2 fun W5 hW => ?_;obtain ⟨bkr, hbr⟩ : ∃ b, w4.heap.size = b := ⟨_, rfl⟩;rw [hbr];obtain ⟨lpr, lqr, lsr, fr, Br, Bp, Bq, Bs, hw⟩ := M3 hW hbr Bp Bq Bs hw;clear hW hbr;have g_pqsr := J4 Bp.cells Bq.cells Bs.cells Br.cells;refine zAq 10 [⟨8, 10, 30, [.int .i64 0, .int .i64 0]⟩, ⟨9, 11, 30, [.int .i64 0, .int .i64 0]⟩] ?_ (by kernel_rfl) (by decide) (by decide) (by kernel_rfl) (by decide) (C := fun w' => ∃ p : Regrown, w' = grow (redrawn W5 p.d) p.os) rgB ?_
 ·simp only [List.forall_mem_cons];refine ⟨⟨_, rfl, rfl, rfl, rfl, fun ρ W => by simp [execOp, go_sem]⟩, ⟨_, rfl, rfl, rfl, rfl, fun ρ W => by simp [execOp, go_sem]⟩, fun _ h => (by cases h)⟩
 simp only [List.take_succ_cons, List.take_zero, List.map_cons, List.map_nil, dropIdx, List.contains_cons, List.contains_nil, Nat.reduceBEq, Nat.reduceAdd, Bool.or_false, Bool.or_true, Bool.or_self, Bool.false_eq_true, if_true, if_false];repeat (first | (refine zA0 (Eq.refl false) ?_; simp only [Act.put, sT2, sT1, sT0]) | (refine rWalk_step (fun K hK => ?_); go_simp; first | (refine hK _ ?_; clear hK K) | (apply Exists.intro; refine ⟨fun _ => ?_, hK _ ?_⟩; (first | with_reducible exact toExt ca _ | with_reducible exact toExt cb _); clear hK K)))
 refine rWalk_nil ?_;intro w6 β hL;simp only [putD, List.drop_succ_cons, List.drop_zero];have qc := hL.box ⟨8, 10, 30, [.int .i64 0, .int .i64 0]⟩ (by simp) (by simp);simp only at qc;have qd := hL.box ⟨9, 11, 30, [.int .i64 0, .int .i64 0]⟩ (by simp) (by simp);simp only at qd;have ncd := hL.apart 10 (by simp) 11 (by simp) (by decide);have ndc := hL.apart 11 (by simp) 10 (by simp) (by decide);have hb := hL.below;have lp := Bp.lt;have lq := Bq.lt;have ls := Bs.lt;have lr := Br.lt;clear g_pqsr;replace Bp := Bp.ee hb;replace Bq := Bq.ee hb;replace Bs := Bs.ee hb;replace Br := Br.ee hb;have hw0 := hw.size;replace hw := upB hw hb;clear hb hL;generalize β 10 = bkc at *
 generalize β 11 = bkd at *
 clear β;obtain ⟨fc, Bc⟩ := qc;obtain ⟨fd, Bd⟩ := qd;simp only [Act.put];have Fc := Bc.f;have Fd := Bd.f;have Fp := Bp.f;have Fq := Bq.f;have Fs := Bs.f;have Fr := Br.f;have epbkc : (w.heap.size = bkc) = False := by simp; omega
 have epbkc' : (bkc = w.heap.size) = False := by simp; omega
 have epbkd : (w.heap.size = bkd) = False := by simp; omega
 have epbkd' : (bkd = w.heap.size) = False := by simp; omega
 have eqbkc : (w.heap.size + 1 = bkc) = False := by simp; omega
 have eqbkc' : (bkc = w.heap.size + 1) = False := by simp; omega
 have eqbkd : (w.heap.size + 1 = bkd) = False := by simp; omega
 have eqbkd' : (bkd = w.heap.size + 1) = False := by simp; omega
 have esbkc : (bks = bkc) = False := by simp; omega
 have esbkc' : (bkc = bks) = False := by simp; omega
 have esbkd : (bks = bkd) = False := by simp; omega
 have esbkd' : (bkd = bks) = False := by simp; omega
 have erbkc : (bkr = bkc) = False := by simp; omega
 have erbkc' : (bkc = bkr) = False := by simp; omega
 have erbkd : (bkr = bkd) = False := by simp; omega
 have erbkd' : (bkd = bkr) = False := by simp; omega
 have ebkcbkd : (bkc = bkd) = False := by simp; omega
 have ebkdbkc : (bkd = bkc) = False := by simp; omega
 go_wp2_with fail;refine zA1 fun W7 hW => ?_;have Cp : Box W7 (w.heap.size) [.int .i64 p.x, .int .i64 p.y] 30 := by rw [hW]; exact ((((Bp.sn bkc 0 (.int .i64 C.x) (by first | assumption | omega)).sn bkc 1 (.int .i64 C.y) (by first | assumption | omega)).sn bkd 0 (.int .i64 D.x) (by first | assumption | omega)).sn bkd 1 (.int .i64 D.y) (by first | assumption | omega))
 have Cq : Box W7 (w.heap.size + 1) [.int .i64 q.x, .int .i64 q.y] 30 := by rw [hW]; exact ((((Bq.sn bkc 0 (.int .i64 C.x) (by first | assumption | omega)).sn bkc 1 (.int .i64 C.y) (by first | assumption | omega)).sn bkd 0 (.int .i64 D.x) (by first | assumption | omega)).sn bkd 1 (.int .i64 D.y) (by first | assumption | omega))
 have Cs : Box W7 (bks) [.int .i64 S.A.x, .int .i64 S.A.y, .int .i64 S.B.x, .int .i64 S.B.y, .int .i64 S.C.x, .int .i64 S.C.y] 43 := by rw [hW]; exact ((((Bs.sn bkc 0 (.int .i64 C.x) (by first | assumption | omega)).sn bkc 1 (.int .i64 C.y) (by first | assumption | omega)).sn bkd 0 (.int .i64 D.x) (by first | assumption | omega)).sn bkd 1 (.int .i64 D.y) (by first | assumption | omega))
 have Cr : Box W7 (bkr) [.int .i64 R.A.x, .int .i64 R.A.y, .int .i64 R.B.x, .int .i64 R.B.y, .int .i64 R.C.x, .int .i64 R.C.y] 43 := by rw [hW]; exact ((((Br.sn bkc 0 (.int .i64 C.x) (by first | assumption | omega)).sn bkc 1 (.int .i64 C.y) (by first | assumption | omega)).sn bkd 0 (.int .i64 D.x) (by first | assumption | omega)).sn bkd 1 (.int .i64 D.y) (by first | assumption | omega))
 have Cc : Box W7 (bkc) [.int .i64 C.x, .int .i64 C.y] 30 := by rw [hW]; exact ((((Bc.set 0 (.int .i64 C.x)).set 1 (.int .i64 C.y)).sn bkd 0 (.int .i64 D.x) (by first | assumption | omega)).sn bkd 1 (.int .i64 D.y) (by first | assumption | omega))
 have Cd : Box W7 (bkd) [.int .i64 D.x, .int .i64 D.y] 30 := by rw [hW]; exact ((((Bd.sn bkc 0 (.int .i64 C.x) (by first | assumption | omega)).sn bkc 1 (.int .i64 C.y) (by first | assumption | omega)).set 0 (.int .i64 D.x)).set 1 (.int .i64 D.y))
 replace hw : Below w.heap.size w W7 := by have hl := hw.size; rw [hW]; go_grown
 clear Fc Fd;clear Fp Fq Fs Fr epbkc epbkc' epbkd epbkd' eqbkc eqbkc' eqbkd eqbkd' esbkc esbkc' esbkd esbkd' erbkc erbkc' erbkd erbkd' ebkcbkd ebkdbkc;clear hW Bp Bq Bs Br Bc Bd;have Bp := Cp;have Bq := Cq;have Bs := Cs;have Br := Cr;have Bc := Cc;have Bd := Cd;clear Cp Cq Cs Cr Cc Cd;refine (cm _).mono ?_;rintro e w8 ⟨rfl, hb⟩;obtain ⟨Bp, Bq, Bs, Br, Bc, Bd, hw, -⟩ := X6 Bp Bq Bs Br Bc Bd hw hb;clear hb;have Fp := Bp.f;have Fq := Bq.f;have Fs := Bs.f;have Fr := Br.f;have Fc := Bc.f;have Fd := Bd.f;go_wp2
 go_ret
 exact ⟨rfl, by have hl := hw.size; go_grown⟩
end Go.Proofs.YtjkfakaehjmnbaaGreat
namespace Go.Proofs.YtjkfakaehjmnbaaGreat
open Go.RowKit
theorem zL1 (a b c : Pt) : okT (mk a b c) := by
 by_cases h : ori a b c = 0
 ·rw [zIg h];have z : vld (⟨0, 0⟩ : Pt) = true := by decide
  exact ⟨zC5 z, zC5 z, zC5 z⟩
 ·exact zB1 (mk_ok h).1
def FlipC (E : Es) (L : List Tri3) (p q : Pt) (r : Int) (L' : List Tri3) : Prop :=
 (r = 16 ∧ (getE E (p, q) = none ∨ getE E (q, p) = none) ∧ L'.Perm L) ∨
 (∃ S R, getE E (p, q) = some S ∧ getE E (q, p) = some R ∧
  ((meetS p q (apx S p q) (apx R p q) ≠ 1 ∧ r = 2 ∧ L'.Perm L) ∨
   (meetS p q (apx S p q) (apx R p q) = 1 ∧ Repl E L [S, R] [mk (apx S p q) p (apx R p q), mk (apx R p q) q (apx S p q)] r L')))
theorem zIh (mb b : Nat) (E : Es) (L : List Tri3) (g : Good E L) (p q : Pt) (hk : okW (p, q)) (w : World) (Bm : Box w mb [.map (some b)] 98) (Hm : HoldsMap eW eT okW w b E) :
    Calls Tryz.prog 17 #[.pointer (some ⟨mb, 0, none⟩), .agg #[.int .i64 p.x, .int .i64 p.y], .agg #[.int .i64 q.x, .int .i64 q.y]] w fun e w' => ∃ r E' L', e = .returned (.int .i64 r) ∧ w.grownBy w' (some b) ∧ HoldsMap eW eT okW w' b E' ∧ Good E' L' ∧ FlipC E L p q r L' := by
 cases h0 : getE E (p, q) with
 | none =>
  refine (zKq mb b E p q hk h0 w Bm Hm).mono ?_;rintro e w' ⟨rfl, hb⟩;exact ⟨16, E, L, rfl, zA7 hb _, Hm.ee hb, g, .inl ⟨rfl, .inl h0, .refl _⟩⟩
 | some S =>
  cases h1 : getE E (q, p) with
  | none =>
   refine (flip_n1 mb b E p q hk S h0 h1 w Bm Hm).mono ?_;rintro e w' ⟨rfl, hb⟩;exact ⟨16, E, L, rfl, zA7 hb _, Hm.ee hb, g, .inl ⟨rfl, .inr h1, .refl _⟩⟩
  | some R =>
   have hS := zB1 (g.val _ (g.get.1 h0).1);have hR := zB1 (g.val _ (g.get.1 h1).1);by_cases hm : meetS p q (apx S p q) (apx R p q) = 1
   ·refine (flip_g mb b E p q hk L g S R _ _ _ _ h0 h1 rfl rfl hm rfl rfl hS hR (zL1 _ _ _) (zL1 _ _ _) w Bm Hm).mono ?_;rintro e w' ⟨r, E', L', rfl, hg, H', g', hr⟩;exact ⟨r, E', L', rfl, hg, H', g', .inr ⟨S, R, h0, h1, .inr ⟨hm, hr⟩⟩⟩
   ·refine (flip_m mb b E p q hk S R _ _ h0 h1 rfl rfl hm w Bm Hm).mono ?_;rintro e w' ⟨rfl, hb⟩;exact ⟨2, E, L, rfl, zA7 hb _, Hm.ee hb, g, .inr ⟨S, R, h0, h1, .inl ⟨hm, rfl, .refl _⟩⟩⟩
end Go.Proofs.YtjkfakaehjmnbaaGreat
namespace Go.Proofs.YtjkfakaehjmnbaaGreat
open Go.RowKit Go.Sort
attribute [local go_sem] rOper rAt rUpon cell_set sg_i64 sg_u64 alloc_cell alloc_frozen
attribute [local go_sem 10000] pt_eql pt_neq tri_eql
attribute [local irreducible] rWalk
attribute [local go_sem 10000] tri_neq
theorem rflip_n0 (mb b : Nat) (E : Es) (p q : Pt) (hk : okW (p, q)) (h0 : getE E (p, q) = none) (w : World) (Bm : Box w mb [.map (some b)] 54) (Hm : HoldsMap eW eT okW w b E) :
    Calls Tryz.prog 18 #[.pointer (some ⟨mb, 0, none⟩), .agg #[.int .i64 p.x, .int .i64 p.y], .agg #[.int .i64 q.x, .int .i64 q.y]] w fun e w' => e = .returned (.int .i64 16) ∧ Below w.heap.size w w' := by
 have cl := zAe mb b E p q hk;have cr := zAe mb b E q p ⟨hk.2, hk.1⟩;rw [zBr h0] at cl;generalize lftE E q p = Z at cr
 obtain ⟨Y, y⟩ := Z;dsimp only at cr;clear h0
 go_enter Tryz.func18, Tryz.ntmps18
 go_wp2_with fail;refine zA1 fun W1 hW => ?_;obtain ⟨Bp, Bq, hw⟩ := N2 hW;clear hW;refine (cl _ (Bm.ee hw) (Hm.ee hw)).mono ?_;rintro e w2 ⟨rfl, hb⟩;obtain ⟨Bp, Bq, hw, -⟩ := X2 Bp Bq hw hb;clear hb;have Fp := Bp.f;have Fq := Bq.f;go_wp2_with fail;clear Fp Fq;refine zA1 fun W3 hW => ?_;obtain ⟨bks, hbs⟩ : ∃ b, w2.heap.size = b := ⟨_, rfl⟩;rw [hbs];obtain ⟨lps, lqs, fs, Bs, Bp, Bq, hw⟩ := M2 hW hbs Bp Bq hw;clear hW hbs;refine (cr _ (Bm.ee hw) (Hm.ee hw)).mono ?_;rintro e w4 ⟨rfl, hb⟩;obtain ⟨Bp, Bq, Bs, hw, -⟩ := X3 Bp Bq Bs hw hb;clear hb;have Fp := Bp.f;have Fq := Bq.f;have Fs := Bs.f;go_wp2
 go_ret
 exact ⟨rfl, by have hl := hw.size; go_grown⟩
theorem rflip_n1 (mb b : Nat) (E : Es) (p q : Pt) (hk : okW (p, q)) (S : Tri3) (h0 : getE E (p, q) = some S) (h1 : getE E (q, p) = none) (w : World) (Bm : Box w mb [.map (some b)] 54) (Hm : HoldsMap eW eT okW w b E) :
    Calls Tryz.prog 18 #[.pointer (some ⟨mb, 0, none⟩), .agg #[.int .i64 p.x, .int .i64 p.y], .agg #[.int .i64 q.x, .int .i64 q.y]] w fun e w' => e = .returned (.int .i64 16) ∧ Below w.heap.size w w' := by
 have cl := zAe mb b E p q hk;have cr := zAe mb b E q p ⟨hk.2, hk.1⟩;rw [zAn h0] at cl;rw [zBr h1] at cr;clear h0 h1
 go_enter Tryz.func18, Tryz.ntmps18
 go_wp2_with fail;refine zA1 fun W1 hW => ?_;obtain ⟨Bp, Bq, hw⟩ := N2 hW;clear hW;refine (cl _ (Bm.ee hw) (Hm.ee hw)).mono ?_;rintro e w2 ⟨rfl, hb⟩;obtain ⟨Bp, Bq, hw, -⟩ := X2 Bp Bq hw hb;clear hb;have Fp := Bp.f;have Fq := Bq.f;go_wp2_with fail;clear Fp Fq;refine zA1 fun W3 hW => ?_;obtain ⟨bks, hbs⟩ : ∃ b, w2.heap.size = b := ⟨_, rfl⟩;rw [hbs];obtain ⟨lps, lqs, fs, Bs, Bp, Bq, hw⟩ := M2 hW hbs Bp Bq hw;clear hW hbs;refine (cr _ (Bm.ee hw) (Hm.ee hw)).mono ?_;rintro e w4 ⟨rfl, hb⟩;obtain ⟨Bp, Bq, Bs, hw, -⟩ := X3 Bp Bq Bs hw hb;clear hb;have Fp := Bp.f;have Fq := Bq.f;have Fs := Bs.f;go_wp2
 go_ret
 exact ⟨rfl, by have hl := hw.size; go_grown⟩
theorem rflip_o1 (mb b : Nat) (E : Es) (p q : Pt) (hk : okW (p, q)) (S R : Tri3) (C D : Pt) (h0 : getE E (p, q) = some S) (h1 : getE E (q, p) = some R) (hC : apx S p q = C) (hD : apx R p q = D) (o1 : decide (ori p D C ≤ 0) = true) (w : World) (Bm : Box w mb [.map (some b)] 54) (Hm : HoldsMap eW eT okW w b E) :
    Calls Tryz.prog 18 #[.pointer (some ⟨mb, 0, none⟩), .agg #[.int .i64 p.x, .int .i64 p.y], .agg #[.int .i64 q.x, .int .i64 q.y]] w fun e w' => e = .returned (.int .i64 2) ∧ Below w.heap.size w w' := by
 have cl := zAe mb b E p q hk;have cr := zAe mb b E q p ⟨hk.2, hk.1⟩;rw [zAn h0] at cl;rw [zAn h1] at cr;clear h0 h1;have ca := zC3 S p q;have cb := zC3 R p q;have c1 := zA5 p D C;have c2 := zA5 D q C;rw [hC] at ca;rw [hD] at cb;clear hC hD
 go_enter Tryz.func18, Tryz.ntmps18
 go_wp2_with fail;refine zA1 fun W1 hW => ?_;obtain ⟨Bp, Bq, hw⟩ := N2 hW;clear hW;refine (cl _ (Bm.ee hw) (Hm.ee hw)).mono ?_;rintro e w2 ⟨rfl, hb⟩;obtain ⟨Bp, Bq, hw, -⟩ := X2 Bp Bq hw hb;clear hb;have Fp := Bp.f;have Fq := Bq.f;go_wp2_with fail;clear Fp Fq;refine zA1 fun W3 hW => ?_;obtain ⟨bks, hbs⟩ : ∃ b, w2.heap.size = b := ⟨_, rfl⟩;rw [hbs];obtain ⟨lps, lqs, fs, Bs, Bp, Bq, hw⟩ := M2 hW hbs Bp Bq hw;clear hW hbs;refine (cr _ (Bm.ee hw) (Hm.ee hw)).mono ?_;rintro e w4 ⟨rfl, hb⟩;obtain ⟨Bp, Bq, Bs, hw, -⟩ := X3 Bp Bq Bs hw hb;clear hb;have Fp := Bp.f;have Fq := Bq.f;have Fs := Bs.f;go_wp2_with fail;clear Fp Fq Fs;refine zA2 fun W5 hW => ?_;obtain ⟨bkr, hbr⟩ : ∃ b, w4.heap.size = b := ⟨_, rfl⟩;rw [hbr];obtain ⟨lpr, lqr, lsr, fr, Br, Bp, Bq, Bs, hw⟩ := M3 hW hbr Bp Bq Bs hw;clear hW hbr;have g_pqsr := J4 Bp.cells Bq.cells Bs.cells Br.cells;refine zAq 10 [⟨8, 11, 30, [.int .i64 0, .int .i64 0]⟩, ⟨9, 12, 30, [.int .i64 0, .int .i64 0]⟩] ?_ (by kernel_rfl) (by decide) (by decide) (by kernel_rfl) (by decide) (C := fun w' => ∃ p : Regrown, w' = grow (redrawn W5 p.d) p.os) rgB ?_
 ·simp only [List.forall_mem_cons];refine ⟨⟨_, rfl, rfl, rfl, rfl, fun ρ W => by simp [execOp, go_sem]⟩, ⟨_, rfl, rfl, rfl, rfl, fun ρ W => by simp [execOp, go_sem]⟩, fun _ h => (by cases h)⟩
 simp only [List.take_succ_cons, List.take_zero, List.map_cons, List.map_nil, dropIdx, List.contains_cons, List.contains_nil, Nat.reduceBEq, Nat.reduceAdd, Bool.or_false, Bool.or_true, Bool.or_self, Bool.false_eq_true, if_true, if_false];repeat (first | (refine zA0 (Eq.refl false) ?_; simp only [Act.put, sT2, sT1, sT0]) | (refine rWalk_step (fun K hK => ?_); go_simp; first | (refine hK _ ?_; clear hK K) | (apply Exists.intro; refine ⟨fun _ => ?_, hK _ ?_⟩; (first | with_reducible exact toExt ca _ | with_reducible exact toExt cb _); clear hK K)))
 refine rWalk_nil ?_;intro w6 β hL;simp only [putD, List.drop_succ_cons, List.drop_zero];have qc := hL.box ⟨8, 11, 30, [.int .i64 0, .int .i64 0]⟩ (by simp) (by simp);simp only at qc;have qd := hL.box ⟨9, 12, 30, [.int .i64 0, .int .i64 0]⟩ (by simp) (by simp);simp only at qd;have ncd := hL.apart 11 (by simp) 12 (by simp) (by decide);have ndc := hL.apart 12 (by simp) 11 (by simp) (by decide);have hb := hL.below;have lp := Bp.lt;have lq := Bq.lt;have ls := Bs.lt;have lr := Br.lt;clear g_pqsr;replace Bp := Bp.ee hb;replace Bq := Bq.ee hb;replace Bs := Bs.ee hb;replace Br := Br.ee hb;have hw0 := hw.size;replace hw := upB hw hb;clear hb hL;generalize β 11 = bkc at *
 generalize β 12 = bkd at *
 clear β;obtain ⟨fc, Bc⟩ := qc;obtain ⟨fd, Bd⟩ := qd;simp only [Act.put];have Fc := Bc.f;have Fd := Bd.f;have Fp := Bp.f;have Fq := Bq.f;have Fs := Bs.f;have Fr := Br.f;have epbkc : (w.heap.size = bkc) = False := by simp; omega
 have epbkc' : (bkc = w.heap.size) = False := by simp; omega
 have epbkd : (w.heap.size = bkd) = False := by simp; omega
 have epbkd' : (bkd = w.heap.size) = False := by simp; omega
 have eqbkc : (w.heap.size + 1 = bkc) = False := by simp; omega
 have eqbkc' : (bkc = w.heap.size + 1) = False := by simp; omega
 have eqbkd : (w.heap.size + 1 = bkd) = False := by simp; omega
 have eqbkd' : (bkd = w.heap.size + 1) = False := by simp; omega
 have esbkc : (bks = bkc) = False := by simp; omega
 have esbkc' : (bkc = bks) = False := by simp; omega
 have esbkd : (bks = bkd) = False := by simp; omega
 have esbkd' : (bkd = bks) = False := by simp; omega
 have erbkc : (bkr = bkc) = False := by simp; omega
 have erbkc' : (bkc = bkr) = False := by simp; omega
 have erbkd : (bkr = bkd) = False := by simp; omega
 have erbkd' : (bkd = bkr) = False := by simp; omega
 have ebkcbkd : (bkc = bkd) = False := by simp; omega
 have ebkdbkc : (bkd = bkc) = False := by simp; omega
 go_wp2_with fail;refine zA1 fun W7 hW => ?_;have Cp : Box W7 (w.heap.size) [.int .i64 p.x, .int .i64 p.y] 30 := by rw [hW]; exact ((((Bp.sn bkc 0 (.int .i64 C.x) (by first | assumption | omega)).sn bkc 1 (.int .i64 C.y) (by first | assumption | omega)).sn bkd 0 (.int .i64 D.x) (by first | assumption | omega)).sn bkd 1 (.int .i64 D.y) (by first | assumption | omega))
 have Cq : Box W7 (w.heap.size + 1) [.int .i64 q.x, .int .i64 q.y] 30 := by rw [hW]; exact ((((Bq.sn bkc 0 (.int .i64 C.x) (by first | assumption | omega)).sn bkc 1 (.int .i64 C.y) (by first | assumption | omega)).sn bkd 0 (.int .i64 D.x) (by first | assumption | omega)).sn bkd 1 (.int .i64 D.y) (by first | assumption | omega))
 have Cs : Box W7 (bks) [.int .i64 S.A.x, .int .i64 S.A.y, .int .i64 S.B.x, .int .i64 S.B.y, .int .i64 S.C.x, .int .i64 S.C.y] 43 := by rw [hW]; exact ((((Bs.sn bkc 0 (.int .i64 C.x) (by first | assumption | omega)).sn bkc 1 (.int .i64 C.y) (by first | assumption | omega)).sn bkd 0 (.int .i64 D.x) (by first | assumption | omega)).sn bkd 1 (.int .i64 D.y) (by first | assumption | omega))
 have Cr : Box W7 (bkr) [.int .i64 R.A.x, .int .i64 R.A.y, .int .i64 R.B.x, .int .i64 R.B.y, .int .i64 R.C.x, .int .i64 R.C.y] 43 := by rw [hW]; exact ((((Br.sn bkc 0 (.int .i64 C.x) (by first | assumption | omega)).sn bkc 1 (.int .i64 C.y) (by first | assumption | omega)).sn bkd 0 (.int .i64 D.x) (by first | assumption | omega)).sn bkd 1 (.int .i64 D.y) (by first | assumption | omega))
 have Cc : Box W7 (bkc) [.int .i64 C.x, .int .i64 C.y] 30 := by rw [hW]; exact ((((Bc.set 0 (.int .i64 C.x)).set 1 (.int .i64 C.y)).sn bkd 0 (.int .i64 D.x) (by first | assumption | omega)).sn bkd 1 (.int .i64 D.y) (by first | assumption | omega))
 have Cd : Box W7 (bkd) [.int .i64 D.x, .int .i64 D.y] 30 := by rw [hW]; exact ((((Bd.sn bkc 0 (.int .i64 C.x) (by first | assumption | omega)).sn bkc 1 (.int .i64 C.y) (by first | assumption | omega)).set 0 (.int .i64 D.x)).set 1 (.int .i64 D.y))
 replace hw : Below w.heap.size w W7 := by have hl := hw.size; rw [hW]; go_grown
 clear Fc Fd;clear Fp Fq Fs Fr epbkc epbkc' epbkd epbkd' eqbkc eqbkc' eqbkd eqbkd' esbkc esbkc' esbkd esbkd' erbkc erbkc' erbkd erbkd' ebkcbkd ebkdbkc;clear hW Bp Bq Bs Br Bc Bd;have Bp := Cp;have Bq := Cq;have Bs := Cs;have Br := Cr;have Bc := Cc;have Bd := Cd;clear Cp Cq Cs Cr Cc Cd;refine (c1 _).mono ?_;rintro e w8 ⟨rfl, hb⟩;obtain ⟨Bp, Bq, Bs, Br, Bc, Bd, hw, -⟩ := X6 Bp Bq Bs Br Bc Bd hw hb;clear hb;have Fp := Bp.f;have Fq := Bq.f;have Fs := Bs.f;have Fr := Br.f;have Fc := Bc.f;have Fd := Bd.f;go_wp2
 go_ret
 exact ⟨rfl, by have hl := hw.size; go_grown⟩
theorem rflip_o2 (mb b : Nat) (E : Es) (p q : Pt) (hk : okW (p, q)) (S R : Tri3) (C D : Pt) (h0 : getE E (p, q) = some S) (h1 : getE E (q, p) = some R) (hC : apx S p q = C) (hD : apx R p q = D) (o1 : decide (ori p D C ≤ 0) = false) (o2 : decide (ori D q C ≤ 0) = true) (w : World) (Bm : Box w mb [.map (some b)] 54) (Hm : HoldsMap eW eT okW w b E) :
    Calls Tryz.prog 18 #[.pointer (some ⟨mb, 0, none⟩), .agg #[.int .i64 p.x, .int .i64 p.y], .agg #[.int .i64 q.x, .int .i64 q.y]] w fun e w' => e = .returned (.int .i64 2) ∧ Below w.heap.size w w' := by
 have cl := zAe mb b E p q hk;have cr := zAe mb b E q p ⟨hk.2, hk.1⟩;rw [zAn h0] at cl;rw [zAn h1] at cr;clear h0 h1;have ca := zC3 S p q;have cb := zC3 R p q;have c1 := zA5 p D C;have c2 := zA5 D q C;rw [hC] at ca;rw [hD] at cb;clear hC hD
 go_enter Tryz.func18, Tryz.ntmps18
 go_wp2_with fail;refine zA1 fun W1 hW => ?_;obtain ⟨Bp, Bq, hw⟩ := N2 hW;clear hW;refine (cl _ (Bm.ee hw) (Hm.ee hw)).mono ?_;rintro e w2 ⟨rfl, hb⟩;obtain ⟨Bp, Bq, hw, -⟩ := X2 Bp Bq hw hb;clear hb;have Fp := Bp.f;have Fq := Bq.f;go_wp2_with fail;clear Fp Fq;refine zA1 fun W3 hW => ?_;obtain ⟨bks, hbs⟩ : ∃ b, w2.heap.size = b := ⟨_, rfl⟩;rw [hbs];obtain ⟨lps, lqs, fs, Bs, Bp, Bq, hw⟩ := M2 hW hbs Bp Bq hw;clear hW hbs;refine (cr _ (Bm.ee hw) (Hm.ee hw)).mono ?_;rintro e w4 ⟨rfl, hb⟩;obtain ⟨Bp, Bq, Bs, hw, -⟩ := X3 Bp Bq Bs hw hb;clear hb;have Fp := Bp.f;have Fq := Bq.f;have Fs := Bs.f;go_wp2_with fail;clear Fp Fq Fs;refine zA2 fun W5 hW => ?_;obtain ⟨bkr, hbr⟩ : ∃ b, w4.heap.size = b := ⟨_, rfl⟩;rw [hbr];obtain ⟨lpr, lqr, lsr, fr, Br, Bp, Bq, Bs, hw⟩ := M3 hW hbr Bp Bq Bs hw;clear hW hbr;have g_pqsr := J4 Bp.cells Bq.cells Bs.cells Br.cells;refine zAq 10 [⟨8, 11, 30, [.int .i64 0, .int .i64 0]⟩, ⟨9, 12, 30, [.int .i64 0, .int .i64 0]⟩] ?_ (by kernel_rfl) (by decide) (by decide) (by kernel_rfl) (by decide) (C := fun w' => ∃ p : Regrown, w' = grow (redrawn W5 p.d) p.os) rgB ?_
 ·simp only [List.forall_mem_cons];refine ⟨⟨_, rfl, rfl, rfl, rfl, fun ρ W => by simp [execOp, go_sem]⟩, ⟨_, rfl, rfl, rfl, rfl, fun ρ W => by simp [execOp, go_sem]⟩, fun _ h => (by cases h)⟩
 simp only [List.take_succ_cons, List.take_zero, List.map_cons, List.map_nil, dropIdx, List.contains_cons, List.contains_nil, Nat.reduceBEq, Nat.reduceAdd, Bool.or_false, Bool.or_true, Bool.or_self, Bool.false_eq_true, if_true, if_false];repeat (first | (refine zA0 (Eq.refl false) ?_; simp only [Act.put, sT2, sT1, sT0]) | (refine rWalk_step (fun K hK => ?_); go_simp; first | (refine hK _ ?_; clear hK K) | (apply Exists.intro; refine ⟨fun _ => ?_, hK _ ?_⟩; (first | with_reducible exact toExt ca _ | with_reducible exact toExt cb _); clear hK K)))
 refine rWalk_nil ?_;intro w6 β hL;simp only [putD, List.drop_succ_cons, List.drop_zero];have qc := hL.box ⟨8, 11, 30, [.int .i64 0, .int .i64 0]⟩ (by simp) (by simp);simp only at qc;have qd := hL.box ⟨9, 12, 30, [.int .i64 0, .int .i64 0]⟩ (by simp) (by simp);simp only at qd;have ncd := hL.apart 11 (by simp) 12 (by simp) (by decide);have ndc := hL.apart 12 (by simp) 11 (by simp) (by decide);have hb := hL.below;have lp := Bp.lt;have lq := Bq.lt;have ls := Bs.lt;have lr := Br.lt;clear g_pqsr;replace Bp := Bp.ee hb;replace Bq := Bq.ee hb;replace Bs := Bs.ee hb;replace Br := Br.ee hb;have hw0 := hw.size;replace hw := upB hw hb;clear hb hL;generalize β 11 = bkc at *
 generalize β 12 = bkd at *
 clear β;obtain ⟨fc, Bc⟩ := qc;obtain ⟨fd, Bd⟩ := qd;simp only [Act.put];have Fc := Bc.f;have Fd := Bd.f;have Fp := Bp.f;have Fq := Bq.f;have Fs := Bs.f;have Fr := Br.f;have epbkc : (w.heap.size = bkc) = False := by simp; omega
 have epbkc' : (bkc = w.heap.size) = False := by simp; omega
 have epbkd : (w.heap.size = bkd) = False := by simp; omega
 have epbkd' : (bkd = w.heap.size) = False := by simp; omega
 have eqbkc : (w.heap.size + 1 = bkc) = False := by simp; omega
 have eqbkc' : (bkc = w.heap.size + 1) = False := by simp; omega
 have eqbkd : (w.heap.size + 1 = bkd) = False := by simp; omega
 have eqbkd' : (bkd = w.heap.size + 1) = False := by simp; omega
 have esbkc : (bks = bkc) = False := by simp; omega
 have esbkc' : (bkc = bks) = False := by simp; omega
 have esbkd : (bks = bkd) = False := by simp; omega
 have esbkd' : (bkd = bks) = False := by simp; omega
 have erbkc : (bkr = bkc) = False := by simp; omega
 have erbkc' : (bkc = bkr) = False := by simp; omega
 have erbkd : (bkr = bkd) = False := by simp; omega
 have erbkd' : (bkd = bkr) = False := by simp; omega
 have ebkcbkd : (bkc = bkd) = False := by simp; omega
 have ebkdbkc : (bkd = bkc) = False := by simp; omega
 go_wp2_with fail;refine zA1 fun W7 hW => ?_;have Cp : Box W7 (w.heap.size) [.int .i64 p.x, .int .i64 p.y] 30 := by rw [hW]; exact ((((Bp.sn bkc 0 (.int .i64 C.x) (by first | assumption | omega)).sn bkc 1 (.int .i64 C.y) (by first | assumption | omega)).sn bkd 0 (.int .i64 D.x) (by first | assumption | omega)).sn bkd 1 (.int .i64 D.y) (by first | assumption | omega))
 have Cq : Box W7 (w.heap.size + 1) [.int .i64 q.x, .int .i64 q.y] 30 := by rw [hW]; exact ((((Bq.sn bkc 0 (.int .i64 C.x) (by first | assumption | omega)).sn bkc 1 (.int .i64 C.y) (by first | assumption | omega)).sn bkd 0 (.int .i64 D.x) (by first | assumption | omega)).sn bkd 1 (.int .i64 D.y) (by first | assumption | omega))
 have Cs : Box W7 (bks) [.int .i64 S.A.x, .int .i64 S.A.y, .int .i64 S.B.x, .int .i64 S.B.y, .int .i64 S.C.x, .int .i64 S.C.y] 43 := by rw [hW]; exact ((((Bs.sn bkc 0 (.int .i64 C.x) (by first | assumption | omega)).sn bkc 1 (.int .i64 C.y) (by first | assumption | omega)).sn bkd 0 (.int .i64 D.x) (by first | assumption | omega)).sn bkd 1 (.int .i64 D.y) (by first | assumption | omega))
 have Cr : Box W7 (bkr) [.int .i64 R.A.x, .int .i64 R.A.y, .int .i64 R.B.x, .int .i64 R.B.y, .int .i64 R.C.x, .int .i64 R.C.y] 43 := by rw [hW]; exact ((((Br.sn bkc 0 (.int .i64 C.x) (by first | assumption | omega)).sn bkc 1 (.int .i64 C.y) (by first | assumption | omega)).sn bkd 0 (.int .i64 D.x) (by first | assumption | omega)).sn bkd 1 (.int .i64 D.y) (by first | assumption | omega))
 have Cc : Box W7 (bkc) [.int .i64 C.x, .int .i64 C.y] 30 := by rw [hW]; exact ((((Bc.set 0 (.int .i64 C.x)).set 1 (.int .i64 C.y)).sn bkd 0 (.int .i64 D.x) (by first | assumption | omega)).sn bkd 1 (.int .i64 D.y) (by first | assumption | omega))
 have Cd : Box W7 (bkd) [.int .i64 D.x, .int .i64 D.y] 30 := by rw [hW]; exact ((((Bd.sn bkc 0 (.int .i64 C.x) (by first | assumption | omega)).sn bkc 1 (.int .i64 C.y) (by first | assumption | omega)).set 0 (.int .i64 D.x)).set 1 (.int .i64 D.y))
 replace hw : Below w.heap.size w W7 := by have hl := hw.size; rw [hW]; go_grown
 clear Fc Fd;clear Fp Fq Fs Fr epbkc epbkc' epbkd epbkd' eqbkc eqbkc' eqbkd eqbkd' esbkc esbkc' esbkd esbkd' erbkc erbkc' erbkd erbkd' ebkcbkd ebkdbkc;clear hW Bp Bq Bs Br Bc Bd;have Bp := Cp;have Bq := Cq;have Bs := Cs;have Br := Cr;have Bc := Cc;have Bd := Cd;clear Cp Cq Cs Cr Cc Cd;refine (c1 _).mono ?_;rintro e w8 ⟨rfl, hb⟩;obtain ⟨Bp, Bq, Bs, Br, Bc, Bd, hw, -⟩ := X6 Bp Bq Bs Br Bc Bd hw hb;clear hb;have Fp := Bp.f;have Fq := Bq.f;have Fs := Bs.f;have Fr := Br.f;have Fc := Bc.f;have Fd := Bd.f;go_wp2_with fail;refine (c2 _).mono ?_;rintro e w9 ⟨rfl, hb⟩;clear Fp Fq Fs Fr Fc Fd;obtain ⟨Bp, Bq, Bs, Br, Bc, Bd, hw, -⟩ := X6 Bp Bq Bs Br Bc Bd hw hb;clear hb;have Fp := Bp.f;have Fq := Bq.f;have Fs := Bs.f;have Fr := Br.f;have Fc := Bc.f;have Fd := Bd.f;go_wp2
 go_ret
 exact ⟨rfl, by have hl := hw.size; go_grown⟩
theorem rflip_c1 (mb b : Nat) (E : Es) (p q : Pt) (hk : okW (p, q)) (S R : Tri3) (C D : Pt) (h0 : getE E (p, q) = some S) (h1 : getE E (q, p) = some R) (hC : apx S p q = C) (hD : apx R p q = D) (o1 : decide (ori p D C ≤ 0) = false) (o2 : decide (ori D q C ≤ 0) = false) (hc : okW (C, D)) (O : Tri3) (he : getE E (D, C) = some O) (n1 : teq O S = false) (n2 : teq O R = false) (w : World) (Bm : Box w mb [.map (some b)] 54) (Hm : HoldsMap eW eT okW w b E) :
    Calls Tryz.prog 18 #[.pointer (some ⟨mb, 0, none⟩), .agg #[.int .i64 p.x, .int .i64 p.y], .agg #[.int .i64 q.x, .int .i64 q.y]] w fun e w' => e = .returned (.int .i64 2) ∧ Below w.heap.size w w' := by
 have cl := zAe mb b E p q hk;have cr := zAe mb b E q p ⟨hk.2, hk.1⟩;rw [zAn h0] at cl;rw [zAn h1] at cr;clear h0 h1;have ca := zC3 S p q;have cb := zC3 R p q;have c1 := zA5 p D C;have c2 := zA5 D q C;rw [hC] at ca;rw [hD] at cb;have cu := zB9 p D C;have cv := zB9 D q C;generalize mk p D C = U at *
 generalize mk D q C = V at *
 have ce := zAe mb b E D C ⟨hc.2, hc.1⟩;have cf := zAe mb b E C D hc;rw [zAn he] at ce;generalize lftE E C D = Z at cf
 obtain ⟨Y, y⟩ := Z;dsimp only at cf;clear hC hD hc he
 go_enter Tryz.func18, Tryz.ntmps18
 go_wp2_with fail;refine zA1 fun W1 hW => ?_;obtain ⟨Bp, Bq, hw⟩ := N2 hW;clear hW;refine (cl _ (Bm.ee hw) (Hm.ee hw)).mono ?_;rintro e w2 ⟨rfl, hb⟩;obtain ⟨Bp, Bq, hw, -⟩ := X2 Bp Bq hw hb;clear hb;have Fp := Bp.f;have Fq := Bq.f;go_wp2_with fail;clear Fp Fq;refine zA1 fun W3 hW => ?_;obtain ⟨bks, hbs⟩ : ∃ b, w2.heap.size = b := ⟨_, rfl⟩;rw [hbs];obtain ⟨lps, lqs, fs, Bs, Bp, Bq, hw⟩ := M2 hW hbs Bp Bq hw;clear hW hbs;refine (cr _ (Bm.ee hw) (Hm.ee hw)).mono ?_;rintro e w4 ⟨rfl, hb⟩;obtain ⟨Bp, Bq, Bs, hw, -⟩ := X3 Bp Bq Bs hw hb;clear hb;have Fp := Bp.f;have Fq := Bq.f;have Fs := Bs.f;go_wp2_with fail;clear Fp Fq Fs;refine zA2 fun W5 hW => ?_;obtain ⟨bkr, hbr⟩ : ∃ b, w4.heap.size = b := ⟨_, rfl⟩;rw [hbr];obtain ⟨lpr, lqr, lsr, fr, Br, Bp, Bq, Bs, hw⟩ := M3 hW hbr Bp Bq Bs hw;clear hW hbr;have g_pqsr := J4 Bp.cells Bq.cells Bs.cells Br.cells;refine zAq 10 [⟨8, 11, 30, [.int .i64 0, .int .i64 0]⟩, ⟨9, 12, 30, [.int .i64 0, .int .i64 0]⟩] ?_ (by kernel_rfl) (by decide) (by decide) (by kernel_rfl) (by decide) (C := fun w' => ∃ p : Regrown, w' = grow (redrawn W5 p.d) p.os) rgB ?_
 ·simp only [List.forall_mem_cons];refine ⟨⟨_, rfl, rfl, rfl, rfl, fun ρ W => by simp [execOp, go_sem]⟩, ⟨_, rfl, rfl, rfl, rfl, fun ρ W => by simp [execOp, go_sem]⟩, fun _ h => (by cases h)⟩
 simp only [List.take_succ_cons, List.take_zero, List.map_cons, List.map_nil, dropIdx, List.contains_cons, List.contains_nil, Nat.reduceBEq, Nat.reduceAdd, Bool.or_false, Bool.or_true, Bool.or_self, Bool.false_eq_true, if_true, if_false];repeat (first | (refine zA0 (Eq.refl false) ?_; simp only [Act.put, sT2, sT1, sT0]) | (refine rWalk_step (fun K hK => ?_); go_simp; first | (refine hK _ ?_; clear hK K) | (apply Exists.intro; refine ⟨fun _ => ?_, hK _ ?_⟩; (first | with_reducible exact toExt ca _ | with_reducible exact toExt cb _); clear hK K)))
 refine rWalk_nil ?_;intro w6 β hL;simp only [putD, List.drop_succ_cons, List.drop_zero];have qc := hL.box ⟨8, 11, 30, [.int .i64 0, .int .i64 0]⟩ (by simp) (by simp);simp only at qc;have qd := hL.box ⟨9, 12, 30, [.int .i64 0, .int .i64 0]⟩ (by simp) (by simp);simp only at qd;have ncd := hL.apart 11 (by simp) 12 (by simp) (by decide);have ndc := hL.apart 12 (by simp) 11 (by simp) (by decide);have hb := hL.below;have lp := Bp.lt;have lq := Bq.lt;have ls := Bs.lt;have lr := Br.lt;clear g_pqsr;replace Bp := Bp.ee hb;replace Bq := Bq.ee hb;replace Bs := Bs.ee hb;replace Br := Br.ee hb;have hw0 := hw.size;replace hw := upB hw hb;clear hb hL;generalize β 11 = bkc at *
 generalize β 12 = bkd at *
 clear β;obtain ⟨fc, Bc⟩ := qc;obtain ⟨fd, Bd⟩ := qd;simp only [Act.put];have Fc := Bc.f;have Fd := Bd.f;have Fp := Bp.f;have Fq := Bq.f;have Fs := Bs.f;have Fr := Br.f;have epbkc : (w.heap.size = bkc) = False := by simp; omega
 have epbkc' : (bkc = w.heap.size) = False := by simp; omega
 have epbkd : (w.heap.size = bkd) = False := by simp; omega
 have epbkd' : (bkd = w.heap.size) = False := by simp; omega
 have eqbkc : (w.heap.size + 1 = bkc) = False := by simp; omega
 have eqbkc' : (bkc = w.heap.size + 1) = False := by simp; omega
 have eqbkd : (w.heap.size + 1 = bkd) = False := by simp; omega
 have eqbkd' : (bkd = w.heap.size + 1) = False := by simp; omega
 have esbkc : (bks = bkc) = False := by simp; omega
 have esbkc' : (bkc = bks) = False := by simp; omega
 have esbkd : (bks = bkd) = False := by simp; omega
 have esbkd' : (bkd = bks) = False := by simp; omega
 have erbkc : (bkr = bkc) = False := by simp; omega
 have erbkc' : (bkc = bkr) = False := by simp; omega
 have erbkd : (bkr = bkd) = False := by simp; omega
 have erbkd' : (bkd = bkr) = False := by simp; omega
 have ebkcbkd : (bkc = bkd) = False := by simp; omega
 have ebkdbkc : (bkd = bkc) = False := by simp; omega
 go_wp2_with fail;refine zA1 fun W7 hW => ?_;have Cp : Box W7 (w.heap.size) [.int .i64 p.x, .int .i64 p.y] 30 := by rw [hW]; exact ((((Bp.sn bkc 0 (.int .i64 C.x) (by first | assumption | omega)).sn bkc 1 (.int .i64 C.y) (by first | assumption | omega)).sn bkd 0 (.int .i64 D.x) (by first | assumption | omega)).sn bkd 1 (.int .i64 D.y) (by first | assumption | omega))
 have Cq : Box W7 (w.heap.size + 1) [.int .i64 q.x, .int .i64 q.y] 30 := by rw [hW]; exact ((((Bq.sn bkc 0 (.int .i64 C.x) (by first | assumption | omega)).sn bkc 1 (.int .i64 C.y) (by first | assumption | omega)).sn bkd 0 (.int .i64 D.x) (by first | assumption | omega)).sn bkd 1 (.int .i64 D.y) (by first | assumption | omega))
 have Cs : Box W7 (bks) [.int .i64 S.A.x, .int .i64 S.A.y, .int .i64 S.B.x, .int .i64 S.B.y, .int .i64 S.C.x, .int .i64 S.C.y] 43 := by rw [hW]; exact ((((Bs.sn bkc 0 (.int .i64 C.x) (by first | assumption | omega)).sn bkc 1 (.int .i64 C.y) (by first | assumption | omega)).sn bkd 0 (.int .i64 D.x) (by first | assumption | omega)).sn bkd 1 (.int .i64 D.y) (by first | assumption | omega))
 have Cr : Box W7 (bkr) [.int .i64 R.A.x, .int .i64 R.A.y, .int .i64 R.B.x, .int .i64 R.B.y, .int .i64 R.C.x, .int .i64 R.C.y] 43 := by rw [hW]; exact ((((Br.sn bkc 0 (.int .i64 C.x) (by first | assumption | omega)).sn bkc 1 (.int .i64 C.y) (by first | assumption | omega)).sn bkd 0 (.int .i64 D.x) (by first | assumption | omega)).sn bkd 1 (.int .i64 D.y) (by first | assumption | omega))
 have Cc : Box W7 (bkc) [.int .i64 C.x, .int .i64 C.y] 30 := by rw [hW]; exact ((((Bc.set 0 (.int .i64 C.x)).set 1 (.int .i64 C.y)).sn bkd 0 (.int .i64 D.x) (by first | assumption | omega)).sn bkd 1 (.int .i64 D.y) (by first | assumption | omega))
 have Cd : Box W7 (bkd) [.int .i64 D.x, .int .i64 D.y] 30 := by rw [hW]; exact ((((Bd.sn bkc 0 (.int .i64 C.x) (by first | assumption | omega)).sn bkc 1 (.int .i64 C.y) (by first | assumption | omega)).set 0 (.int .i64 D.x)).set 1 (.int .i64 D.y))
 replace hw : Below w.heap.size w W7 := by have hl := hw.size; rw [hW]; go_grown
 clear Fc Fd;clear Fp Fq Fs Fr epbkc epbkc' epbkd epbkd' eqbkc eqbkc' eqbkd eqbkd' esbkc esbkc' esbkd esbkd' erbkc erbkc' erbkd erbkd' ebkcbkd ebkdbkc;clear hW Bp Bq Bs Br Bc Bd;have Bp := Cp;have Bq := Cq;have Bs := Cs;have Br := Cr;have Bc := Cc;have Bd := Cd;clear Cp Cq Cs Cr Cc Cd;refine (c1 _).mono ?_;rintro e w8 ⟨rfl, hb⟩;obtain ⟨Bp, Bq, Bs, Br, Bc, Bd, hw, -⟩ := X6 Bp Bq Bs Br Bc Bd hw hb;clear hb;have Fp := Bp.f;have Fq := Bq.f;have Fs := Bs.f;have Fr := Br.f;have Fc := Bc.f;have Fd := Bd.f;go_wp2_with fail;refine (c2 _).mono ?_;rintro e w9 ⟨rfl, hb⟩;clear Fp Fq Fs Fr Fc Fd;obtain ⟨Bp, Bq, Bs, Br, Bc, Bd, hw, -⟩ := X6 Bp Bq Bs Br Bc Bd hw hb;clear hb;have Fp := Bp.f;have Fq := Bq.f;have Fs := Bs.f;have Fr := Br.f;have Fc := Bc.f;have Fd := Bd.f;go_wp2_with fail;refine (cu _).mono ?_;rintro e w10 ⟨rfl, hb⟩;clear Fp Fq Fs Fr Fc Fd;obtain ⟨Bp, Bq, Bs, Br, Bc, Bd, hw, -⟩ := X6 Bp Bq Bs Br Bc Bd hw hb;clear hb;have Fp := Bp.f;have Fq := Bq.f;have Fs := Bs.f;have Fr := Br.f;have Fc := Bc.f;have Fd := Bd.f;go_wp2_with fail;clear Fp Fq Fs Fr Fc Fd;refine zA1 fun W11 hW => ?_;obtain ⟨bku, hbu⟩ : ∃ b, w10.heap.size = b := ⟨_, rfl⟩;rw [hbu];obtain ⟨lpu, lqu, lsu, lru, lcu, ldu, fu, Bu, Bp, Bq, Bs, Br, Bc, Bd, hw⟩ := M6 hW hbu Bp Bq Bs Br Bc Bd hw;clear hW hbu;refine (cv _).mono ?_;rintro e w12 ⟨rfl, hb⟩;obtain ⟨Bp, Bq, Bs, Br, Bc, Bd, Bu, hw, -⟩ := X7 Bp Bq Bs Br Bc Bd Bu hw hb;clear hb;have Fp := Bp.f;have Fq := Bq.f;have Fs := Bs.f;have Fr := Br.f;have Fc := Bc.f;have Fd := Bd.f;have Fu := Bu.f;go_wp2_with fail;clear Fp Fq Fs Fr Fc Fd Fu;refine zA1 fun W13 hW => ?_;obtain ⟨bkv, hbv⟩ : ∃ b, w12.heap.size = b := ⟨_, rfl⟩;rw [hbv];obtain ⟨lpv, lqv, lsv, lrv, lcv, ldv, luv, fv, Bv, Bp, Bq, Bs, Br, Bc, Bd, Bu, hw⟩ := M7 hW hbv Bp Bq Bs Br Bc Bd Bu hw;clear hW hbv;refine (ce _ (Bm.ee hw) (Hm.ee hw)).mono ?_;rintro e w14 ⟨rfl, hb⟩;obtain ⟨Bp, Bq, Bs, Br, Bc, Bd, Bu, Bv, hw, -⟩ := X8 Bp Bq Bs Br Bc Bd Bu Bv hw hb;clear hb;have Fp := Bp.f;have Fq := Bq.f;have Fs := Bs.f;have Fr := Br.f;have Fc := Bc.f;have Fd := Bd.f;have Fu := Bu.f;have Fv := Bv.f;go_wp2_with fail;clear Fp Fq Fs Fr Fc Fd Fu Fv;refine zA1 fun W15 hW => ?_;obtain ⟨bko, hbo⟩ : ∃ b, w14.heap.size = b := ⟨_, rfl⟩;rw [hbo];obtain ⟨lpo, lqo, lso, lro, lco, ldo, luo, lvo, fo, Bo, Bp, Bq, Bs, Br, Bc, Bd, Bu, Bv, hw⟩ := M8 hW hbo Bp Bq Bs Br Bc Bd Bu Bv hw;clear hW hbo;refine (cf _ (Bm.ee hw) (Hm.ee hw)).mono ?_;rintro e w16 ⟨rfl, hb⟩;obtain ⟨Bp, Bq, Bs, Br, Bc, Bd, Bu, Bv, Bo, hw, -⟩ := X9 Bp Bq Bs Br Bc Bd Bu Bv Bo hw hb;clear hb;have Fp := Bp.f;have Fq := Bq.f;have Fs := Bs.f;have Fr := Br.f;have Fc := Bc.f;have Fd := Bd.f;have Fu := Bu.f;have Fv := Bv.f;have Fo := Bo.f;go_wp2
 go_ret
 exact ⟨rfl, by have hl := hw.size; go_grown⟩
theorem rflip_c2 (mb b : Nat) (E : Es) (p q : Pt) (hk : okW (p, q)) (S R : Tri3) (C D : Pt) (h0 : getE E (p, q) = some S) (h1 : getE E (q, p) = some R) (hC : apx S p q = C) (hD : apx R p q = D) (o1 : decide (ori p D C ≤ 0) = false) (o2 : decide (ori D q C ≤ 0) = false) (hc : okW (C, D)) (O : Tri3) (he : getE E (D, C) = none) (hf : getE E (C, D) = some O) (n1 : teq O S = false) (n2 : teq O R = false) (w : World) (Bm : Box w mb [.map (some b)] 54) (Hm : HoldsMap eW eT okW w b E) :
    Calls Tryz.prog 18 #[.pointer (some ⟨mb, 0, none⟩), .agg #[.int .i64 p.x, .int .i64 p.y], .agg #[.int .i64 q.x, .int .i64 q.y]] w fun e w' => e = .returned (.int .i64 2) ∧ Below w.heap.size w w' := by
 have cl := zAe mb b E p q hk;have cr := zAe mb b E q p ⟨hk.2, hk.1⟩;rw [zAn h0] at cl;rw [zAn h1] at cr;clear h0 h1;have ca := zC3 S p q;have cb := zC3 R p q;have c1 := zA5 p D C;have c2 := zA5 D q C;rw [hC] at ca;rw [hD] at cb;have cu := zB9 p D C;have cv := zB9 D q C;generalize mk p D C = U at *
 generalize mk D q C = V at *
 have ce := zAe mb b E D C ⟨hc.2, hc.1⟩;have cf := zAe mb b E C D hc;rw [zBr he] at ce;rw [zAn hf] at cf;clear hC hD hc he hf
 go_enter Tryz.func18, Tryz.ntmps18
 go_wp2_with fail;refine zA1 fun W1 hW => ?_;obtain ⟨Bp, Bq, hw⟩ := N2 hW;clear hW;refine (cl _ (Bm.ee hw) (Hm.ee hw)).mono ?_;rintro e w2 ⟨rfl, hb⟩;obtain ⟨Bp, Bq, hw, -⟩ := X2 Bp Bq hw hb;clear hb;have Fp := Bp.f;have Fq := Bq.f;go_wp2_with fail;clear Fp Fq;refine zA1 fun W3 hW => ?_;obtain ⟨bks, hbs⟩ : ∃ b, w2.heap.size = b := ⟨_, rfl⟩;rw [hbs];obtain ⟨lps, lqs, fs, Bs, Bp, Bq, hw⟩ := M2 hW hbs Bp Bq hw;clear hW hbs;refine (cr _ (Bm.ee hw) (Hm.ee hw)).mono ?_;rintro e w4 ⟨rfl, hb⟩;obtain ⟨Bp, Bq, Bs, hw, -⟩ := X3 Bp Bq Bs hw hb;clear hb;have Fp := Bp.f;have Fq := Bq.f;have Fs := Bs.f;go_wp2_with fail;clear Fp Fq Fs;refine zA2 fun W5 hW => ?_;obtain ⟨bkr, hbr⟩ : ∃ b, w4.heap.size = b := ⟨_, rfl⟩;rw [hbr];obtain ⟨lpr, lqr, lsr, fr, Br, Bp, Bq, Bs, hw⟩ := M3 hW hbr Bp Bq Bs hw;clear hW hbr;have g_pqsr := J4 Bp.cells Bq.cells Bs.cells Br.cells;refine zAq 10 [⟨8, 11, 30, [.int .i64 0, .int .i64 0]⟩, ⟨9, 12, 30, [.int .i64 0, .int .i64 0]⟩] ?_ (by kernel_rfl) (by decide) (by decide) (by kernel_rfl) (by decide) (C := fun w' => ∃ p : Regrown, w' = grow (redrawn W5 p.d) p.os) rgB ?_
 ·simp only [List.forall_mem_cons];refine ⟨⟨_, rfl, rfl, rfl, rfl, fun ρ W => by simp [execOp, go_sem]⟩, ⟨_, rfl, rfl, rfl, rfl, fun ρ W => by simp [execOp, go_sem]⟩, fun _ h => (by cases h)⟩
 simp only [List.take_succ_cons, List.take_zero, List.map_cons, List.map_nil, dropIdx, List.contains_cons, List.contains_nil, Nat.reduceBEq, Nat.reduceAdd, Bool.or_false, Bool.or_true, Bool.or_self, Bool.false_eq_true, if_true, if_false];repeat (first | (refine zA0 (Eq.refl false) ?_; simp only [Act.put, sT2, sT1, sT0]) | (refine rWalk_step (fun K hK => ?_); go_simp; first | (refine hK _ ?_; clear hK K) | (apply Exists.intro; refine ⟨fun _ => ?_, hK _ ?_⟩; (first | with_reducible exact toExt ca _ | with_reducible exact toExt cb _); clear hK K)))
 refine rWalk_nil ?_;intro w6 β hL;simp only [putD, List.drop_succ_cons, List.drop_zero];have qc := hL.box ⟨8, 11, 30, [.int .i64 0, .int .i64 0]⟩ (by simp) (by simp);simp only at qc;have qd := hL.box ⟨9, 12, 30, [.int .i64 0, .int .i64 0]⟩ (by simp) (by simp);simp only at qd;have ncd := hL.apart 11 (by simp) 12 (by simp) (by decide);have ndc := hL.apart 12 (by simp) 11 (by simp) (by decide);have hb := hL.below;have lp := Bp.lt;have lq := Bq.lt;have ls := Bs.lt;have lr := Br.lt;clear g_pqsr;replace Bp := Bp.ee hb;replace Bq := Bq.ee hb;replace Bs := Bs.ee hb;replace Br := Br.ee hb;have hw0 := hw.size;replace hw := upB hw hb;clear hb hL;generalize β 11 = bkc at *
 generalize β 12 = bkd at *
 clear β;obtain ⟨fc, Bc⟩ := qc;obtain ⟨fd, Bd⟩ := qd;simp only [Act.put];have Fc := Bc.f;have Fd := Bd.f;have Fp := Bp.f;have Fq := Bq.f;have Fs := Bs.f;have Fr := Br.f;have epbkc : (w.heap.size = bkc) = False := by simp; omega
 have epbkc' : (bkc = w.heap.size) = False := by simp; omega
 have epbkd : (w.heap.size = bkd) = False := by simp; omega
 have epbkd' : (bkd = w.heap.size) = False := by simp; omega
 have eqbkc : (w.heap.size + 1 = bkc) = False := by simp; omega
 have eqbkc' : (bkc = w.heap.size + 1) = False := by simp; omega
 have eqbkd : (w.heap.size + 1 = bkd) = False := by simp; omega
 have eqbkd' : (bkd = w.heap.size + 1) = False := by simp; omega
 have esbkc : (bks = bkc) = False := by simp; omega
 have esbkc' : (bkc = bks) = False := by simp; omega
 have esbkd : (bks = bkd) = False := by simp; omega
 have esbkd' : (bkd = bks) = False := by simp; omega
 have erbkc : (bkr = bkc) = False := by simp; omega
 have erbkc' : (bkc = bkr) = False := by simp; omega
 have erbkd : (bkr = bkd) = False := by simp; omega
 have erbkd' : (bkd = bkr) = False := by simp; omega
 have ebkcbkd : (bkc = bkd) = False := by simp; omega
 have ebkdbkc : (bkd = bkc) = False := by simp; omega
 go_wp2_with fail;refine zA1 fun W7 hW => ?_;have Cp : Box W7 (w.heap.size) [.int .i64 p.x, .int .i64 p.y] 30 := by rw [hW]; exact ((((Bp.sn bkc 0 (.int .i64 C.x) (by first | assumption | omega)).sn bkc 1 (.int .i64 C.y) (by first | assumption | omega)).sn bkd 0 (.int .i64 D.x) (by first | assumption | omega)).sn bkd 1 (.int .i64 D.y) (by first | assumption | omega))
 have Cq : Box W7 (w.heap.size + 1) [.int .i64 q.x, .int .i64 q.y] 30 := by rw [hW]; exact ((((Bq.sn bkc 0 (.int .i64 C.x) (by first | assumption | omega)).sn bkc 1 (.int .i64 C.y) (by first | assumption | omega)).sn bkd 0 (.int .i64 D.x) (by first | assumption | omega)).sn bkd 1 (.int .i64 D.y) (by first | assumption | omega))
 have Cs : Box W7 (bks) [.int .i64 S.A.x, .int .i64 S.A.y, .int .i64 S.B.x, .int .i64 S.B.y, .int .i64 S.C.x, .int .i64 S.C.y] 43 := by rw [hW]; exact ((((Bs.sn bkc 0 (.int .i64 C.x) (by first | assumption | omega)).sn bkc 1 (.int .i64 C.y) (by first | assumption | omega)).sn bkd 0 (.int .i64 D.x) (by first | assumption | omega)).sn bkd 1 (.int .i64 D.y) (by first | assumption | omega))
 have Cr : Box W7 (bkr) [.int .i64 R.A.x, .int .i64 R.A.y, .int .i64 R.B.x, .int .i64 R.B.y, .int .i64 R.C.x, .int .i64 R.C.y] 43 := by rw [hW]; exact ((((Br.sn bkc 0 (.int .i64 C.x) (by first | assumption | omega)).sn bkc 1 (.int .i64 C.y) (by first | assumption | omega)).sn bkd 0 (.int .i64 D.x) (by first | assumption | omega)).sn bkd 1 (.int .i64 D.y) (by first | assumption | omega))
 have Cc : Box W7 (bkc) [.int .i64 C.x, .int .i64 C.y] 30 := by rw [hW]; exact ((((Bc.set 0 (.int .i64 C.x)).set 1 (.int .i64 C.y)).sn bkd 0 (.int .i64 D.x) (by first | assumption | omega)).sn bkd 1 (.int .i64 D.y) (by first | assumption | omega))
 have Cd : Box W7 (bkd) [.int .i64 D.x, .int .i64 D.y] 30 := by rw [hW]; exact ((((Bd.sn bkc 0 (.int .i64 C.x) (by first | assumption | omega)).sn bkc 1 (.int .i64 C.y) (by first | assumption | omega)).set 0 (.int .i64 D.x)).set 1 (.int .i64 D.y))
 replace hw : Below w.heap.size w W7 := by have hl := hw.size; rw [hW]; go_grown
 clear Fc Fd;clear Fp Fq Fs Fr epbkc epbkc' epbkd epbkd' eqbkc eqbkc' eqbkd eqbkd' esbkc esbkc' esbkd esbkd' erbkc erbkc' erbkd erbkd' ebkcbkd ebkdbkc;clear hW Bp Bq Bs Br Bc Bd;have Bp := Cp;have Bq := Cq;have Bs := Cs;have Br := Cr;have Bc := Cc;have Bd := Cd;clear Cp Cq Cs Cr Cc Cd;refine (c1 _).mono ?_;rintro e w8 ⟨rfl, hb⟩;obtain ⟨Bp, Bq, Bs, Br, Bc, Bd, hw, -⟩ := X6 Bp Bq Bs Br Bc Bd hw hb;clear hb;have Fp := Bp.f;have Fq := Bq.f;have Fs := Bs.f;have Fr := Br.f;have Fc := Bc.f;have Fd := Bd.f;go_wp2_with fail;refine (c2 _).mono ?_;rintro e w9 ⟨rfl, hb⟩;clear Fp Fq Fs Fr Fc Fd;obtain ⟨Bp, Bq, Bs, Br, Bc, Bd, hw, -⟩ := X6 Bp Bq Bs Br Bc Bd hw hb;clear hb;have Fp := Bp.f;have Fq := Bq.f;have Fs := Bs.f;have Fr := Br.f;have Fc := Bc.f;have Fd := Bd.f;go_wp2_with fail;refine (cu _).mono ?_;rintro e w10 ⟨rfl, hb⟩;clear Fp Fq Fs Fr Fc Fd;obtain ⟨Bp, Bq, Bs, Br, Bc, Bd, hw, -⟩ := X6 Bp Bq Bs Br Bc Bd hw hb;clear hb;have Fp := Bp.f;have Fq := Bq.f;have Fs := Bs.f;have Fr := Br.f;have Fc := Bc.f;have Fd := Bd.f;go_wp2_with fail;clear Fp Fq Fs Fr Fc Fd;refine zA1 fun W11 hW => ?_;obtain ⟨bku, hbu⟩ : ∃ b, w10.heap.size = b := ⟨_, rfl⟩;rw [hbu];obtain ⟨lpu, lqu, lsu, lru, lcu, ldu, fu, Bu, Bp, Bq, Bs, Br, Bc, Bd, hw⟩ := M6 hW hbu Bp Bq Bs Br Bc Bd hw;clear hW hbu;refine (cv _).mono ?_;rintro e w12 ⟨rfl, hb⟩;obtain ⟨Bp, Bq, Bs, Br, Bc, Bd, Bu, hw, -⟩ := X7 Bp Bq Bs Br Bc Bd Bu hw hb;clear hb;have Fp := Bp.f;have Fq := Bq.f;have Fs := Bs.f;have Fr := Br.f;have Fc := Bc.f;have Fd := Bd.f;have Fu := Bu.f;go_wp2_with fail;clear Fp Fq Fs Fr Fc Fd Fu;refine zA1 fun W13 hW => ?_;obtain ⟨bkv, hbv⟩ : ∃ b, w12.heap.size = b := ⟨_, rfl⟩;rw [hbv];obtain ⟨lpv, lqv, lsv, lrv, lcv, ldv, luv, fv, Bv, Bp, Bq, Bs, Br, Bc, Bd, Bu, hw⟩ := M7 hW hbv Bp Bq Bs Br Bc Bd Bu hw;clear hW hbv;refine (ce _ (Bm.ee hw) (Hm.ee hw)).mono ?_;rintro e w14 ⟨rfl, hb⟩;obtain ⟨Bp, Bq, Bs, Br, Bc, Bd, Bu, Bv, hw, -⟩ := X8 Bp Bq Bs Br Bc Bd Bu Bv hw hb;clear hb;have Fp := Bp.f;have Fq := Bq.f;have Fs := Bs.f;have Fr := Br.f;have Fc := Bc.f;have Fd := Bd.f;have Fu := Bu.f;have Fv := Bv.f;go_wp2_with fail;clear Fp Fq Fs Fr Fc Fd Fu Fv;refine zA1 fun W15 hW => ?_;obtain ⟨bko, hbo⟩ : ∃ b, w14.heap.size = b := ⟨_, rfl⟩;rw [hbo];obtain ⟨lpo, lqo, lso, lro, lco, ldo, luo, lvo, fo, Bo, Bp, Bq, Bs, Br, Bc, Bd, Bu, Bv, hw⟩ := M8 hW hbo Bp Bq Bs Br Bc Bd Bu Bv hw;clear hW hbo;refine (cf _ (Bm.ee hw) (Hm.ee hw)).mono ?_;rintro e w16 ⟨rfl, hb⟩;obtain ⟨Bp, Bq, Bs, Br, Bc, Bd, Bu, Bv, Bo, hw, -⟩ := X9 Bp Bq Bs Br Bc Bd Bu Bv Bo hw hb;clear hb;have Fp := Bp.f;have Fq := Bq.f;have Fs := Bs.f;have Fr := Br.f;have Fc := Bc.f;have Fd := Bd.f;have Fu := Bu.f;have Fv := Bv.f;have Fo := Bo.f;go_wp2
 go_ret
 exact ⟨rfl, by have hl := hw.size; go_grown⟩
end Go.Proofs.YtjkfakaehjmnbaaGreat
