/- Put together: CdtQ, Blt6, RowI, MesVb, MesVc, MrA, MesY, Float, Tail, Once, MesZ, FlowC, MrB. -/
import Derived.Test.YtmobnmjjmafibaaGreatRows
import Derived.Test.YtmobnmjjmafibaaGreatPum5
import Derived.Test.YtmobnmjjmafibaaGreatPum14
import Derived.Test.YtmobnmjjmafibaaGreatPum0
import Derived.WalkKit
import Derived.WalkSpells
import Derived.WalkLawsBesides
import Derived.Laws.Externs
import Derived.Deep.QuietTactic
import Derived.BigQuiet
import Derived.Lib.Hide
import Derived.Handy
import Derived.LoopN
import Derived.RegionTactic
import Derived.Test.YtmobnmjjmafibaaGreatPum6
import Derived.Test.YtmobnmjjmafibaaGreatPum10
import Derived.OwnWalk
import Derived.Deep.Slices
import Derived.Carry
import Derived.ProofKit
import Derived.Lib.SmallJoins
import Derived.Test.YtmobnmjjmafibaaGreatPum13
import Derived.Test.YtmobnmjjmafibaaGreatPum12
import Derived.Test.YtmobnmjjmafibaaGreatPum1
import Derived.Test.YtmobnmjjmafibaaGreatPum11
set_option maxRecDepth 100000
set_option maxHeartbeats 8000000
namespace Go.Proofs.YtmobnmjjmafibaaGreat
open Go.RowKit Go.Sort
attribute [local go_sem] rOper rAt rUpon cell_set sg_i64 sg_u64 alloc_cell alloc_frozen
attribute [local go_sem 10000] pt_eql pt_neq tri_eql
attribute [local irreducible] rWalk
theorem round_eqC {i n : Int} (hn : 0 < n) (hn2 : n ≤ 4294967296) : (wrap64 (i.tmod n + n)).tmod n = i % n := by
 have h1 : 0 ≤ i % n := Int.emod_nonneg i (by omega)
 have h2 : i % n < n := Int.emod_lt_of_pos i hn
 have h3 : i.tmod n = i % n ∨ i.tmod n = i % n - n := by
  have h := @Int.tmod_eq_emod i n
  split at h
  ·left; omega
  ·right; rw [h]; omega
 have h4 : wrap64 (i.tmod n + n) = i.tmod n + n := by rw [w64]; omega
 rw [h4, Int.tmod_eq_emod_of_nonneg (by omega)]
 rcases h3 with h | h <;> rw [h]
 ·rw [Int.add_emod_right]; exact Int.emod_eq_of_lt h1 h2
 ·rw [show i % n - n + n = i % n by omega]; exact Int.emod_eq_of_lt h1 h2
theorem zJb {i n : Int} (hn : 0 < n) (hn2 : n ≤ 4294967296) (w : World) :
    Calls Tryz.prog 21 #[.int .i64 i, .int .i64 n] w fun e w' => e = .returned (.int .i64 (i % n)) ∧ Below w.heap.size w w' := by
 rw [← round_eqC hn hn2]
 have h0 : (n == 0) = false := by simp; omega
 have h1 : n ≠ 0 := by omega
 go_enter Tryz.func21, Tryz.ntmps21
 go_wp2
 all_goals go_ret
 all_goals exact ⟨rfl, by go_grown⟩
def spt (s n : Int) : Pt := ⟨n % ((s + 1) * (s + 1)) % (s + 1), n % ((s + 1) * (s + 1)) / (s + 1)⟩
theorem zI8 {s : Int} (hs : 0 < s) (n : Int) : inBox s s (spt s n) := by
 have hp : 0 < (s + 1) * (s + 1) := Int.mul_pos (by omega) (by omega)
 have h1 := Int.emod_nonneg n (b := (s + 1) * (s + 1)) (by omega)
 have h2 := Int.emod_lt_of_pos n hp
 have h3 := Int.emod_nonneg (n % ((s + 1) * (s + 1))) (b := s + 1) (by omega)
 have h4 := Int.emod_lt_of_pos (n % ((s + 1) * (s + 1))) (b := s + 1) (by omega)
 have h5 : 0 ≤ n % ((s + 1) * (s + 1)) / (s + 1) := Int.ediv_nonneg h1 (by omega)
 have h6 : n % ((s + 1) * (s + 1)) / (s + 1) < s + 1 := Int.ediv_lt_of_lt_mul (by omega) h2
 unfold inBox spt
 simp only
 omega
theorem spot_any (s n : Int) (hs : 0 < s) (hs2 : s ≤ 60) (w : World) :
    Calls Tryz.prog 14 #[.int .i64 s, .int .i64 n] w fun e w' => e = .returned (.agg #[.int .i64 (spt s n).x, .int .i64 (spt s n).y]) ∧ Below w.heap.size w w' := by
 have hp : 0 < (s + 1) * (s + 1) := Int.mul_pos (by omega) (by omega)
 have hp2 : (s + 1) * (s + 1) ≤ 4000 := by
  have := Int.mul_le_mul (a := s + 1) (b := s + 1) (c := 61) (d := 61) (by omega) (by omega) (by omega) (by omega)
  omega
 have cr := zJb (i := n) (n := (s + 1) * (s + 1)) hp (by omega)
 have hk1 := Int.emod_nonneg n (b := (s + 1) * (s + 1)) (by omega)
 have hk2 := Int.emod_lt_of_pos n hp
 have hb := zI8 hs n
 have HE := Lib.hid (show spt s n = ⟨n % ((s + 1) * (s + 1)) % (s + 1), n % ((s + 1) * (s + 1)) / (s + 1)⟩ from rfl)
 have hw1 : wrap64 ((s + 1) * (s + 1)) = (s + 1) * (s + 1) := by rw [w64]; omega
 have hk3 : n % ((s + 1) * (s + 1)) < 4000 := by omega
 have HB := Lib.hid hb
 generalize n % ((s + 1) * (s + 1)) = k at *
 have ht1 : Int.tmod k (s + 1) = k % (s + 1) := Int.tmod_eq_emod_of_nonneg hk1
 have ht2 : Int.tdiv k (s + 1) = k / (s + 1) := Int.tdiv_eq_ediv_of_nonneg hk1
 go_enter Tryz.func14, Tryz.ntmps14
 have h5 : 0 ≤ k / (s + 1) := Int.ediv_nonneg hk1 (by omega)
 have h6 : k / (s + 1) ≤ k := Int.ediv_le_self _ hk1
 have h7 := Int.emod_nonneg k (b := s + 1) (by omega)
 have h8 := Int.emod_lt_of_pos k (b := s + 1) (by omega)
 have n0 : s + 1 ≠ 0 := by omega
 have n1 : (s + 1 == 0) = false := by simp; omega
 have n2 : (s + 1 = 0) = False := by simp; omega
 have a1 : IntKind.i64.wrap (s + 1) = s + 1 := by rw [IntKind.wrap_i64]; omega
 have a2 : IntKind.i64.wrap (k / (s + 1)) = k / (s + 1) := by rw [IntKind.wrap_i64]; omega
 have a3 : IntKind.i64.wrap (k % (s + 1)) = k % (s + 1) := by rw [IntKind.wrap_i64]; omega
 have HK := Lib.hid (show True from trivial)
 clear hb hp hp2 hk2 hk3
 go_wp2_with fail
 refine zA1 fun W1 hW => ?_
 have Br : Box W1 w.heap.size [.int .i64 0, .int .i64 0] 30 := by rw [hW]; exact Box.new rfl
 have hw : Below w.heap.size w W1 := by rw [hW]; go_grown
 clear hW
 refine (cr _).mono ?_
 rintro e w2 ⟨rfl, hb⟩
 have Br2 := Br.ee hb
 have hw2 := (upB hw hb)
 clear hb Br hw cr
 have Fr := Br2.facts
 go_wp2_with fail
 clear Fr
 have gr := Br2.cells
 refine wp_region_tail 9 (by kernel_rfl) (by kernel_rfl) (C := fun w' => ∃ p : Regrown, w' = grow (redrawn w2 p.d) p.os) rgB ?_
 simp only [tK1, tK0, dP1, dP0]
 repeat (first | (refine zA0 (Eq.refl false) ?_; simp only [Act.put, sT2, sT1, sT0]) | (refine rWalk_step (fun K hK => ?_); go_simp; first | (refine hK _ ?_; clear hK K) | (apply Exists.intro; refine ⟨fun _ => ?_, hK _ ?_⟩; (first | fail); clear hK K)))
 refine rWalk_nil ?_
 intro w3 hb
 clear gr
 have Br3 := Br2.ee hb
 have hw3 := (upB hw2 hb)
 clear hb Br2 hw2
 have Fr := Br3.facts
 go_wp2_with fail
 refine bodyPost_ret (v := .agg #[.int .i64 (k % (s + 1)), .int .i64 (k / (s + 1))]) (by simp [results, Tryz.results14, go_sem, Fr]) rfl ⟨by rw [HE.out], by have hl := hw3.size; go_grown⟩
def cI (x : Int) : List Value := [.int .i64 x]
theorem RowAt.num {w : World} {a : Option Addr} {P : List Int} (h : RowAt cI 1 w a P) {j : Nat} (hj : j < P.length) : ∃ ad, a = some ad ∧ ad.block < w.heap.size ∧ w.cell? (ad.add j) = some (.int .i64 P[j]) := by
 obtain ⟨ad, h1, h2, h3⟩ := h j P[j] (List.getElem?_eq_getElem hj)
 have h4 := h3 0 (.int .i64 P[j]) rfl
 rw [Nat.mul_one, show ∀ A : Addr, A.add 0 = A from fun A => by unfold Addr.add; split <;> simp_all] at h4
 exact ⟨ad, h1, h2, h4⟩
def PutPt (s : Int) (P : List Int) (q : Pt) : Prop := (q = ⟨0, 0⟩ ∨ q = ⟨s, 0⟩ ∨ q = ⟨s, s⟩ ∨ q = ⟨0, s⟩) ∨ ∃ x ∈ P, q = spt s x
end Go.Proofs.YtmobnmjjmafibaaGreat
namespace Go.Proofs.YtmobnmjjmafibaaGreat
open Go.RowKit Go.Sort Go.ChangeShapes Go.WideShapes Go.ChangeAt
section
variable {H : Type} {enc : TypeId × Value → H} {w : World} {base : Nat → Bool} {spare : Bool}
theorem trod_num {b0 : Nat} {fuel : Nat} {cs : List Value} {y : DataW H × List MemPlace} (hl : cs.length = 1) (hf : DataW.trod enc Tryz.prog w b0 base spare fuel 3 cs = some y) :
    ∃ x : Int, cs = cI x := by
 match cs, hl with
 | [v], _ =>
  obtain ⟨a0, h4, rfl, _⟩ := DataW.trod_int Tryz.underlying3 hf
  simp at h4
  exact ⟨a0, by unfold cI; rw [h4]⟩
theorem open_rowI {r : Reach} {b0 b1 : Nat} {v : Value} {d : DataW H} {p : List MemPlace} (hv : Value.okWide Tryz.prog w r b1 22 v) (h : DataW.Trod enc Tryz.prog w b0 base spare 22 v d p) :
    ∃ (a : Option Addr) (n cap : Nat) (L : List Int), v = .slice a n cap ∧ L.length = n ∧ RowAt cI 1 w a L := by
 obtain ⟨a0, n0, k0, rfl⟩ := okWide_slice Tryz.underlying22 hv
 obtain ⟨fuel, hf⟩ := h
 simp only [Value.cells] at hf
 rcases Deep.open_slice Tryz.underlying22 hf with ⟨hcs, _⟩ | ⟨a, len, cap, m, n, D, Pl, hcs, hb, hl, hm, hmm, hx, hi⟩
 ·simp only [List.cons.injEq, Value.slice.injEq, and_true] at hcs
  obtain ⟨rfl, rfl, rfl⟩ := hcs
  exact ⟨none, 0, 0, [], rfl, rfl, fun j x hx => (by simp at hx)⟩
 ·simp only [List.cons.injEq, Value.slice.injEq, and_true] at hcs
  obtain ⟨rfl, rfl, rfl⟩ := hcs
  have hlm : n0 ≤ m := by rw [hmm]; split <;> omega
  have each : ∀ i, i < n0 → ∃ T : Int, ∀ j u, (cI T)[j]? = some u → w.cell? ((a.add (i * 1)).add j) = some u := fun i hin => by
   obtain ⟨cs', h1, h2⟩ := hi i (by omega)
   rw [show Tryz.prog.cellsOf 3 = 1 by kernel_rfl] at h1
   obtain ⟨_, hlen, hcell⟩ := World.cells?_some h1
   obtain ⟨T, rfl⟩ := trod_num hlen h2
   refine ⟨T, fun j u hu => ?_⟩
   rw [hcell j (by have := (List.getElem?_eq_some_iff.1 hu).1; rwa [hlen] at this)]; exact hu
  obtain ⟨f, hf2⟩ := Deep.choose_lt each
  refine ⟨some a, n0, k0, (List.range n0).map f, rfl, by simp, fun j x hx => ?_⟩
  rw [List.getElem?_map] at hx
  obtain ⟨i, hi1, rfl⟩ := Option.map_eq_some_iff.1 hx
  have hj : j < n0 ∧ i = j := by
   obtain ⟨h1, h2⟩ := List.getElem?_eq_some_iff.1 hi1
   simp at h1 h2; exact ⟨h1, h2.symm⟩
  obtain ⟨hj, rfl⟩ := hj
  have hc := hf2 i hj
  refine ⟨a, rfl, ?_, hc⟩
  have h4 := hc 0 _ rfl
  unfold World.cell? at h4
  rw [zAl, zAl] at h4
  rcases Nat.lt_or_ge a.block w.heap.size with h' | h'
  ·exact h'
  ·simp [Array.getElem?_eq_none h'] at h4
end
end Go.Proofs.YtmobnmjjmafibaaGreat
namespace Go.Proofs.YtmobnmjjmafibaaGreat
open Go.RowKit Go.Sort
attribute [local go_sem] rOper rAt rUpon cell_set sg_i64 sg_u64 alloc_cell alloc_frozen
attribute [local go_sem 10000] pt_eql pt_neq tri_eql
attribute [local irreducible] rWalk
attribute [local go_sem 10000] run_upto_tri
theorem zH7 {w : World} {a : Option Addr} {L : List Tri3} (h : RowAt cT 6 w a L) (k : Nat) : RowAt cT 6 w a (L.take k) := fun j x hx => by
 refine h j x ?_
 rw [List.getElem?_take] at hx
 split at hx
 ·exact hx
 ·cases hx
theorem zG9 : ∀ (L : List Tri3) (E : Es), (takeRun E L).1 ≤ L.length
 | [], _ => Nat.le_refl _
 | T :: L, E => by
  unfold takeRun
  split
  ·have := zG9 L (takeT E T); simp only [List.length_cons]; omega
  ·exact Nat.zero_le _
theorem zGe : ∀ (L : List Tri3) (E : Es), (putRun E L).1 ≤ L.length
 | [], _ => Nat.le_refl _
 | T :: L, E => by
  unfold putRun
  split
  ·have := zGe L (putT E T); simp only [List.length_cons]; omega
  ·exact Nat.zero_le _
theorem replace_none (mb b : Nat) (E : Es) (a1 a2 : Option Addr) (cap1 cap2 n1 n2 : Nat) (L1 : List Tri3) (hn1 : L1.length = n1) (hc1 : n1 ≤ cap1) (hm1 : n1 ≤ 1000000) (hok1 : ∀ T ∈ L1, okT T) (h1 : (takeRun E L1).1 < n1) (w : World) (Bm : Box w mb [.map (some b)] 89) (Hm : HoldsMap eW eT okW w b E) (Hr1 : RowAt cT 6 w a1 L1) :
    Calls Tryz.prog 35 #[.pointer (some ⟨mb, 0, none⟩), .slice a1 n1 cap1, .slice a2 n2 cap2] w fun e w' => e = .returned (.int .i64 16) ∧ w.grownBy w' (some b) ∧ HoldsMap eW eT okW w' b (putRun (takeRun E L1).2 (L1.take (takeRun E L1).1)).2 := by
 have c1 := zEh mb b E a1 cap1 n1 L1 (Lib.hid hn1) hm1 hok1
 generalize hk : (takeRun E L1).1 = k at *
 generalize (takeRun E L1).2 = F at *
 have c2 := zDx mb b F a1 cap1 k (L1.take k) (Lib.hid (by rw [List.length_take]; omega)) (by omega) (fun T hT => hok1 T (List.mem_of_mem_take hT))
 generalize (putRun F (L1.take k)).1 = j at *
 generalize hL2 : L1.take k = L2 at *
 have HL2 := Lib.hid hL2
 generalize (putRun F L2).2 = G at *
 have d1 : decide ((k : Int) < (n1 : Int)) = true := by simp; omega
 have d2 : (k : Int) < (n1 : Int) := by omega
 have hkc : k ≤ cap1 := by omega
 clear hok1 hn1 hL2 hk
 go_enter Tryz.func35, Tryz.ntmps35
 go_wp2_with fail
 refine (c1 _ Bm Hm Hr1).mono ?_
 rintro e w1 ⟨rfl, hg, H1⟩
 replace Bm := Bm.turn Hm hg
 have Hr2 := zH7 (Hr1.turn cT_ne Hm hg) k
 rw [HL2.out] at Hr2
 clear Hm Hr1 c1 HL2
 go_wp2_with fail
 refine (c2 _ Bm H1 Hr2).mono ?_
 rintro e w2 ⟨rfl, hh, H2⟩
 replace hg := zA8 hg hh
 clear hh
 go_wp2
 go_ret
 exact ⟨rfl, hg, H2⟩
theorem replace_bad (mb b : Nat) (E : Es) (a1 a2 : Option Addr) (cap1 cap2 n1 n2 : Nat) (L1 L2 : List Tri3) (hn1 : L1.length = n1) (hm1 : n1 ≤ 1000000) (hok1 : ∀ T ∈ L1, okT T) (hn2 : L2.length = n2) (hc2 : n2 ≤ cap2) (hm2 : n2 ≤ 1000000) (hok2 : ∀ T ∈ L2, okT T) (h1 : (takeRun E L1).1 = n1) (h2 : (putRun (takeRun E L1).2 L2).1 < n2) (w : World) (Bm : Box w mb [.map (some b)] 89) (Hm : HoldsMap eW eT okW w b E) (Hr1 : RowAt cT 6 w a1 L1) (Hr2 : RowAt cT 6 w a2 L2) :
    Calls Tryz.prog 35 #[.pointer (some ⟨mb, 0, none⟩), .slice a1 n1 cap1, .slice a2 n2 cap2] w fun e w' => e = .returned (.int .i64 2) ∧ w.grownBy w' (some b) ∧ HoldsMap eW eT okW w' b (putRun (takeRun (putRun (takeRun E L1).2 L2).2 (L2.take (putRun (takeRun E L1).2 L2).1)).2 L1).2 := by
 have c1 := zEh mb b E a1 cap1 n1 L1 (Lib.hid hn1) hm1 hok1
 rw [h1] at c1
 generalize (takeRun E L1).2 = F at *
 have c2 := zDx mb b F a2 cap2 n2 L2 (Lib.hid hn2) hm2 hok2
 generalize (putRun F L2).1 = k at *
 generalize (putRun F L2).2 = G at *
 have c3 := zEh mb b G a2 cap2 k (L2.take k) (Lib.hid (by rw [List.length_take]; omega)) (by omega) (fun T hT => hok2 T (List.mem_of_mem_take hT))
 generalize hL3 : L2.take k = L3 at *
 have HL3 := Lib.hid hL3
 generalize (takeRun G L3).1 = j3 at *
 generalize (takeRun G L3).2 = G3 at *
 have c4 := zDx mb b G3 a1 cap1 n1 L1 (Lib.hid hn1) hm1 hok1
 generalize (putRun G3 L1).1 = j4 at *
 generalize (putRun G3 L1).2 = G4 at *
 have d0 : decide ((n1 : Int) < (n1 : Int)) = false := by simp
 have d1 : decide ((k : Int) < (n2 : Int)) = true := by simp; omega
 have d2 : (k : Int) < (n2 : Int) := by omega
 have hkc : k ≤ cap2 := by omega
 clear hok1 hok2 hn1 hn2 hL3 h1
 go_enter Tryz.func35, Tryz.ntmps35
 go_wp2_with fail
 refine (c1 _ Bm Hm Hr1).mono ?_
 rintro e w1 ⟨rfl, hg, H1⟩
 replace Bm := Bm.turn Hm hg
 replace Hr1 := Hr1.turn cT_ne Hm hg
 replace Hr2 := Hr2.turn cT_ne Hm hg
 clear Hm c1
 go_wp2_with fail
 refine (c2 _ Bm H1 Hr2).mono ?_
 rintro e w2 ⟨rfl, hh, H2⟩
 replace hg := zA8 hg hh
 replace Bm := Bm.turn H1 hh
 replace Hr1 := Hr1.turn cT_ne H1 hh
 have Hr3 := zH7 (Hr2.turn cT_ne H1 hh) k
 rw [HL3.out] at Hr3
 clear hh H1 c2 Hr2 HL3
 go_wp2_with fail
 refine (c3 _ Bm H2 Hr3).mono ?_
 rintro e w3 ⟨rfl, hh, H3⟩
 replace hg := zA8 hg hh
 replace Bm := Bm.turn H2 hh
 replace Hr1 := Hr1.turn cT_ne H2 hh
 clear hh H2 c3 Hr3
 go_wp2_with fail
 refine (c4 _ Bm H3 Hr1).mono ?_
 rintro e w4 ⟨rfl, hh, H4⟩
 replace hg := zA8 hg hh
 clear hh
 go_wp2
 go_ret
 exact ⟨rfl, hg, H4⟩
end Go.Proofs.YtmobnmjjmafibaaGreat
namespace Go.Proofs.YtmobnmjjmafibaaGreat
open Go.RowKit
theorem Good.takeUp : ∀ {L1 : List Tri3} {E : Es} {L : List Tri3}, Good E L → ∃ M, L.Perm (L1.take (takeRun E L1).1 ++ M) ∧ Good (takeRun E L1).2 M
 | [], E, L, h => ⟨L, by simp, h⟩
 | T :: L1, E, L, h => by
  unfold takeRun
  by_cases hh : hasE E T = true
  ·rw [if_pos hh]
   have hm := h.has.1 hh
   obtain ⟨M0, hM0⟩ : ∃ M0, L.Perm (T :: M0) := ⟨L.erase T, List.perm_cons_erase hm⟩
   obtain ⟨_, h2⟩ := Good.take (h.order hM0)
   obtain ⟨M, p, g⟩ := Good.takeUp (L1 := L1) h2
   exact ⟨M, by simp only [List.take_succ_cons, List.cons_append]; exact hM0.trans (p.cons T), g⟩
  ·rw [if_neg hh]
   exact ⟨L, by simp, h⟩
theorem fits_free {E : Es} {M : List Tri3} (h : Good E M) {T : Tri3} (hf : fitsE E T = true) : valT T = true ∧ ∀ w ∈ ways T, w ∉ M.flatMap ways := by
 obtain ⟨h1, h2, h3, hv⟩ := zGn hf
 refine ⟨hv, fun w hw => ?_⟩
 simp only [ways, List.mem_cons, List.not_mem_nil, or_false] at hw
 rcases hw with rfl | rfl | rfl
 ·exact h.get_none.1 h1
 ·exact h.get_none.1 h2
 ·exact h.get_none.1 h3
theorem Good.putUp : ∀ {L2 : List Tri3} {E : Es} {M : List Tri3}, Good E M → Good (putRun E L2).2 (L2.take (putRun E L2).1 ++ M)
 | [], E, M, h => by simpa [putRun] using h
 | T :: L2, E, M, h => by
  unfold putRun
  by_cases hh : fitsE E T = true
  ·rw [if_pos hh]
   obtain ⟨hv, hn⟩ := fits_free h hh
   have h2 := (Good.put h hv hn).2
   have := Good.putUp (L2 := L2) h2
   simp only [List.take_succ_cons, List.cons_append]
   exact this.order List.perm_middle
  ·rw [if_neg hh]
   simpa using h
def Repl (E : Es) (L L1 L2 : List Tri3) (r : Int) (L' : List Tri3) : Prop :=
 (r = 16 ∧ (takeRun E L1).1 < L1.length ∧ L'.Perm L) ∨
 (r = 2 ∧ (takeRun E L1).1 = L1.length ∧ (putRun (takeRun E L1).2 L2).1 < L2.length ∧ L'.Perm L) ∨
 (r = 0 ∧ (takeRun E L1).1 = L1.length ∧ (putRun (takeRun E L1).2 L2).1 = L2.length ∧ ∃ M, L.Perm (L1 ++ M) ∧ L'.Perm (L2 ++ M))
theorem zEl (mb b : Nat) (E : Es) (L : List Tri3) (g : Good E L) (a1 a2 : Option Addr) (cap1 cap2 n1 n2 : Nat) (L1 L2 : List Tri3) (hn1 : L1.length = n1) (hc1 : n1 ≤ cap1) (hm1 : n1 ≤ 1000000) (hok1 : ∀ T ∈ L1, okT T) (hn2 : L2.length = n2) (hc2 : n2 ≤ cap2) (hm2 : n2 ≤ 1000000) (hok2 : ∀ T ∈ L2, okT T) (w : World) (Bm : Box w mb [.map (some b)] 89) (Hm : HoldsMap eW eT okW w b E) (Hr1 : RowAt cT 6 w a1 L1) (Hr2 : RowAt cT 6 w a2 L2) :
    Calls Tryz.prog 35 #[.pointer (some ⟨mb, 0, none⟩), .slice a1 n1 cap1, .slice a2 n2 cap2] w fun e w' => ∃ r E' L', e = .returned (.int .i64 r) ∧ w.grownBy w' (some b) ∧ HoldsMap eW eT okW w' b E' ∧ Good E' L' ∧ Repl E L L1 L2 r L' := by
 obtain ⟨M, pM, gM⟩ := Good.takeUp (L1 := L1) g
 have tl := zG9 L1 E
 by_cases h1 : (takeRun E L1).1 = n1
 ·have e1 : L1.take (takeRun E L1).1 = L1 := List.take_of_length_le (by omega)
  rw [e1] at pM
  have pl := zGe L2 (takeRun E L1).2
  have gG := Good.putUp (L2 := L2) gM
  by_cases h2 : (putRun (takeRun E L1).2 L2).1 = n2
  ·have e2 : L2.take (putRun (takeRun E L1).2 L2).1 = L2 := List.take_of_length_le (by omega)
   rw [e2] at gG
   refine (zDc mb b E a1 a2 cap1 cap2 n1 n2 L1 L2 (Lib.hid hn1) hm1 hok1 (Lib.hid hn2) hm2 hok2 h1 h2 w Bm Hm Hr1 Hr2).mono ?_
   rintro e w' ⟨rfl, hg, H'⟩
   exact ⟨0, _, _, rfl, hg, H', gG, .inr (.inr ⟨rfl, by omega, by omega, M, pM, .refl _⟩)⟩
  ·refine (replace_bad mb b E a1 a2 cap1 cap2 n1 n2 L1 L2 hn1 hm1 hok1 hn2 hc2 hm2 hok2 h1 (by omega) w Bm Hm Hr1 Hr2).mono ?_
   rintro e w' ⟨rfl, hg, H'⟩
   have g3 := (Good.takes (F := L2.take (putRun (takeRun E L1).2 L2).1) (M := M) gG).2
   have n4 : ((L1 ++ M).flatMap ways).Nodup := (zAq pM).nodup_iff.1 g.once
   have g4 := (Good.puts (I := L1) (M := M) g3 (fun T hT => g.val T (pM.mem_iff.2 (by simp [hT]))) n4).2
   exact ⟨2, _, _, rfl, hg, H', g4, .inr (.inl ⟨rfl, by omega, by omega, pM.symm⟩)⟩
 ·refine (replace_none mb b E a1 a2 cap1 cap2 n1 n2 L1 hn1 hc1 hm1 hok1 (by omega) w Bm Hm Hr1).mono ?_
  rintro e w' ⟨rfl, hg, H'⟩
  have n4 : ((L1.take (takeRun E L1).1 ++ M).flatMap ways).Nodup := (zAq pM).nodup_iff.1 g.once
  have g4 := (Good.puts (I := L1.take (takeRun E L1).1) (M := M) gM (fun T hT => g.val T (pM.mem_iff.2 (by simp [hT]))) n4).2
  exact ⟨16, _, _, rfl, hg, H', g4, .inl ⟨rfl, by omega, pM.symm⟩⟩
end Go.Proofs.YtmobnmjjmafibaaGreat
namespace Go.Proofs.YtmobnmjjmafibaaGreat
open Go.RowKit Go.Sort
attribute [local go_sem] rOper rAt rUpon cell_set sg_i64 sg_u64 alloc_cell alloc_frozen
attribute [local go_sem 10000] pt_eql pt_neq tri_eql
attribute [local irreducible] rWalk
theorem cutP_way {p : Pt} {T : Tri3} (vp : vld p = true) (va : vld T.A = true) (vb : vld T.B = true) (vc : vld T.C = true) (hh : hasT T p) {U : Tri3} (hU : U ∈ cutP p T) {w : Pt × Pt} (hw : w ∈ ways U) : w.1 = p ∨ w.2 = p ∨ w ∈ ways T := by
 have one : ∀ {a b : Pt}, vld a = true → vld b = true → 0 ≤ det a b p → (a, b) ∈ ways T → U ∈ part p a b → w.1 = p ∨ w.2 = p ∨ w ∈ ways T := fun {a b} va vb hp hm hU => by
  unfold part at hU
  split at hU
  ·cases hU
  ·rename_i h
   rw [List.mem_singleton] at hU
   have hp2 : 0 < det a b p := by
    have := (zJ4 (a := a) (b := b) (p := p) va vb vp).2.2
    omega
   have m := (zAx va vb vp hp2).1
   rw [hU, m.ways.mem_iff] at hw
   simp only [List.mem_cons, List.not_mem_nil, or_false] at hw
   rcases hw with rfl | rfl | rfl
   ·exact .inr (.inr hm)
   ·exact .inr (.inl rfl)
   ·exact .inl rfl
 unfold cutP at hU
 obtain ⟨h1, h2, h3⟩ := hh
 rw [List.mem_append, List.mem_append] at hU
 rcases hU with hU | hU | hU
 ·exact one va vb h1 (by simp [ways]) hU
 ·exact one vb vc h2 (by simp [ways]) hU
 ·exact one vc va h3 (by simp [ways]) hU
theorem repl_there {E : Es} {L : List Tri3} {T S : Tri3} (g : Good E L) (hT : T ∈ L) (hS : S ∈ L) (hne : S ≠ T) {r : Int} {E' : Es} {L' : List Tri3} (g' : Good E' L') (h : Repl E L [T] [S] r L') : r = 2 ∧ L'.Perm L := by
 obtain ⟨M, hL⟩ : ∃ M, L.Perm ([T] ++ M) := ⟨L.erase T, List.perm_cons_erase hT⟩
 have k := (Good.takes (g.order hL)).1
 rcases h with ⟨_, h1, _⟩ | ⟨h1, _, _, h4⟩ | ⟨_, _, _, M2, h4, h5⟩
 ·omega
 ·exact ⟨h1, h4⟩
 ·exfalso
  have n := (zAq h5).nodup_iff.1 g'.once
  have hM2 : S ∈ M2 := by
   have := h4.mem_iff.1 hS
   simp only [List.cons_append, List.nil_append, List.mem_cons] at this
   exact this.resolve_left hne
  rw [List.cons_append, List.nil_append, List.flatMap_cons, List.nodup_append] at n
  exact n.2.2 (S.A, S.B) (by simp [ways]) (S.A, S.B) (List.mem_flatMap.2 ⟨S, hM2, by simp [ways]⟩) rfl
theorem repl_twice {E : Es} {L : List Tri3} {T : Tri3} (g : Good E L) (hT : T ∈ L) {r : Int} {L' : List Tri3} (h : Repl E L [T, T] [] r L') : r = 16 ∧ L'.Perm L := by
 obtain ⟨M, hL⟩ : ∃ M, L.Perm (T :: M) := ⟨L.erase T, List.perm_cons_erase hT⟩
 have k := Good.take (g.order hL)
 have nM : T ∉ M := fun hm => by
  have n := zDl g.once
  have := hL.nodup_iff.1 n
  rw [List.nodup_cons] at this
  exact this.1 hm
 have k2 : (takeRun E [T, T]).1 < 2 := by
  have : hasE (takeT E T) T = false := by
   rw [← Bool.not_eq_true]; exact fun e => nM (k.2.has.1 e)
  unfold takeRun takeRun
  rw [if_pos k.1, this]
  simp
 have e2 : ([T, T] : List Tri3).length = 2 := rfl
 rcases h with ⟨h1, _, h3⟩ | ⟨_, h2, _⟩ | ⟨_, h2, _⟩
 ·exact ⟨h1, h3⟩
 ·rw [e2] at h2; omega
 ·rw [e2] at h2; omega
theorem cutR_len (T : Tri3) (p : Pt) : (cutR T p).length ≤ 3 := by
 have one : ∀ a b : Pt, (part p a b).length ≤ 1 := fun a b => by unfold part; split <;> simp
 unfold cutR
 split
 ·unfold cutP
  have h1 := one T.A T.B
  have h2 := one T.B T.C
  have h3 := one T.C T.A
  simp only [List.length_append]; omega
 ·simp
section
variable {W H : Int} {E : Es} {L M : List Tri3} {T : Tri3} {p : Pt} (g : Good E L) (t : Tiles W H L) (hW0 : 0 < W) (hH0 : 0 < H) (hW : W < 16777216) (hH : H < 16777216)
include g t hW0 hH0 hW hH
theorem cut_one (hT : T ∈ L) (hL : L.Perm (T :: M)) (hp : inBox W H p) : (∀ U ∈ cutR T p, valT U = true ∧ isCnr U p ∧ U ≠ T) ∧ ((cutR T p ++ M).flatMap ways).Nodup := by
 have n0 : ((T :: M).flatMap ways).Nodup := (zAq hL).nodup_iff.1 t.once
 rw [List.flatMap_cons, List.nodup_append] at n0
 unfold cutR
 cases hc : cutOk T p with
 | false => rw [if_neg (by simp)]; exact ⟨by simp, by simpa using n0.2.1⟩
 | true =>
  rw [if_pos rfl]
  have vb : ∀ q, inBox W H q → vld q = true := fun q hq => by rw [zAp]; unfold inBox at hq; omega
  have vp := vb p hp
  unfold cutOk at hc
  simp only [Bool.and_eq_true, Bool.not_eq_true'] at hc
  obtain ⟨h1, h2, h3, h4⟩ := hc
  have hP := (zFv (g.val T hT) vp).1 h1
  have nT : ¬ isCnr T p := fun k => by
   rcases k with k | k | k
   ·exact (zBd.1 h2) k
   ·exact (zBd.1 h3) k
   ·exact (zBd.1 h4) k
  have hn : ∀ S ∈ L, ¬ isCnr S p := fun S hS k => nT (t.cnr_all hS hT k hP)
  obtain ⟨F, hF, f1, f2⟩ := t.spots hW0 hH0 hp hn (f := fun T => hasP T p) (fun T hT => by rw [zFv (g.val T hT) vp]; rfl)
  obtain ⟨t', tv⟩ := zH3 t hW0 hH0 hW hH hp hn hF f2
  have hTF : T ∈ F := f1.mem_iff.1 (List.mem_filter.2 ⟨hT, h1⟩)
  obtain ⟨F', hF'⟩ : ∃ F', F.Perm (T :: F') := ⟨F.erase T, List.perm_cons_erase hTF⟩
  have n1 : ((cutP p T).flatMap ways).Nodup := by
   have k := t'.once
   rw [List.flatMap_append, List.nodup_append] at k
   have k2 := ((zAq (hF'.flatMap_right (cutP p))).nodup_iff.1 k.1)
   rw [List.flatMap_cons, List.flatMap_append, List.nodup_append] at k2
   exact k2.1
  have bx := t.box T hT
  refine ⟨fun U hU => ?_, ?_⟩
  ·obtain ⟨a, b⟩ := tv U (List.mem_flatMap.2 ⟨T, hTF, hU⟩)
   exact ⟨a, b, fun e => nT (e ▸ b)⟩
  ·rw [List.flatMap_append, List.nodup_append]
   refine ⟨n1, n0.2.1, fun w hw x hx e => ?_⟩
   subst e
   obtain ⟨U, hU, hwU⟩ := List.mem_flatMap.1 hw
   obtain ⟨S, hS, hwS⟩ := List.mem_flatMap.1 hx
   have hSL : S ∈ L := hL.mem_iff.2 (List.mem_cons_of_mem _ hS)
   rcases cutP_way vp (vb _ bx.1) (vb _ bx.2.1) (vb _ bx.2.2) hP hU hwU with k | k | k
   ·exact hn S hSL (k ▸ (zI4 hwS).1)
   ·exact hn S hSL (k ▸ (zI4 hwS).2)
   ·exact n0.2.2 w k w hx rfl
theorem cut_runs (hT : T ∈ L) (hp : inBox W H p) {I : List Tri3} (hI : I.Perm (cutR T p)) :
    (takeRun E [T]).1 = 1 ∧ (putRun (takeRun E [T]).2 I).1 = I.length ∧ (∀ U ∈ I, valT U = true) ∧ ∃ M, L.Perm (T :: M) ∧ T ∉ I ++ M ∧ Good (putRun (takeRun E [T]).2 I).2 (I ++ M) ∧
     (takeRun (putRun (takeRun E [T]).2 I).2 I).1 = I.length ∧ (putRun (takeRun (putRun (takeRun E [T]).2 I).2 I).2 [T]).1 = 1 ∧ Good (putRun (takeRun (putRun (takeRun E [T]).2 I).2 I).2 [T]).2 L := by
 obtain ⟨M, hL⟩ : ∃ M, L.Perm ([T] ++ M) := ⟨L.erase T, List.perm_cons_erase hT⟩
 obtain ⟨c1, c2⟩ := cut_one g t hW0 hH0 hW hH hT hL hp
 have k := Good.takes (g.order hL)
 have n2 : ((I ++ M).flatMap ways).Nodup := (zAq (hI.append_right M)).nodup_iff.2 c2
 have k2 := Good.puts (I := I) k.2 (fun U hU => (c1 U (hI.mem_iff.1 hU)).1) n2
 have nT : T ∉ I ++ M := fun hm => by
  rcases List.mem_append.1 hm with hm | hm
  ·exact (c1 T (hI.mem_iff.1 hm)).2.2 rfl
  ·have := hL.nodup_iff.1 (zDl t.once)
   rw [List.cons_append, List.nil_append, List.nodup_cons] at this
   exact this.1 hm
 have j := Good.takes k2.2
 have n3 : (([T] ++ M).flatMap ways).Nodup := (zAq hL).nodup_iff.1 t.once
 have j2 := Good.puts (I := [T]) j.2 (fun U hU => by rw [List.mem_singleton] at hU; rw [hU]; exact g.val T hT) n3
 exact ⟨k.1, k2.1, fun U hU => (c1 U (hI.mem_iff.1 hU)).1, M, hL, nT, k2.2, j.1, j2.1, j2.2.order hL.symm⟩
end
theorem nlen  (w : World) :
    Calls Tryz.prog 20 #[.pointer none] w fun e w' => e = .returned (.int .i64 0) ∧ Below w.heap.size w w' := by
 go_enter Tryz.func20, Tryz.ntmps20
 go_wp2_with fail
 go_ret
 exact ⟨rfl, Below.refl _ _⟩
theorem nleft (p q : Pt) (w : World) :
    Calls Tryz.prog 38 #[.pointer none, .agg #[.int .i64 p.x, .int .i64 p.y], .agg #[.int .i64 q.x, .int .i64 q.y]] w fun e w' => e = .returned (.tuple #[.agg #[.int .i64 0, .int .i64 0, .int .i64 0, .int .i64 0, .int .i64 0, .int .i64 0], .bool false]) ∧ Below w.heap.size w w' := by
 go_enter Tryz.func38, Tryz.ntmps38
 go_wp2_with fail
 refine bodyPost_ret (v := .tuple #[.agg #[.int .i64 0, .int .i64 0, .int .i64 0, .int .i64 0, .int .i64 0, .int .i64 0], .bool false]) (by simp [results, Tryz.results38, go_sem]) rfl ⟨rfl, by go_grown⟩
theorem nhas (T : Tri3) (w : World) :
    Calls Tryz.prog 37 #[.pointer none, .agg #[.int .i64 T.A.x, .int .i64 T.A.y, .int .i64 T.B.x, .int .i64 T.B.y, .int .i64 T.C.x, .int .i64 T.C.y]] w fun e w' => e = .returned (.bool false) ∧ Below w.heap.size w w' := by
 go_enter Tryz.func37, Tryz.ntmps37
 go_wp2_with fail
 refine zA1 fun W1 hW => ?_
 have Bt : Box W1 (w.heap.size) [.int .i64 T.A.x, .int .i64 T.A.y, .int .i64 T.B.x, .int .i64 T.B.y, .int .i64 T.C.x, .int .i64 T.C.y] 38 := by rw [hW]; exact Box.new rfl
 have hw : Below w.heap.size w W1 := by rw [hW]; go_grown
 clear hW
 refine (nleft T.A T.B _).mono ?_
 rintro e w2 ⟨rfl, hb⟩
 replace Bt := Bt.ee hb
 replace hw := upB hw hb
 clear hb
 have Ft := Bt.facts
 go_wp2
 go_ret
 exact ⟨rfl, by have hl := hw.size; go_grown⟩
theorem nflip (p q : Pt) (w : World) :
    Calls Tryz.prog 39 #[.pointer none, .agg #[.int .i64 p.x, .int .i64 p.y], .agg #[.int .i64 q.x, .int .i64 q.y]] w fun e w' => e = .returned (.int .i64 16) ∧ Below w.heap.size w w' := by
 go_enter Tryz.func39, Tryz.ntmps39
 go_wp2_with fail
 refine zA1 fun W1 hW => ?_
 have Bp : Box W1 (w.heap.size) [.int .i64 p.x, .int .i64 p.y] 30 := by rw [hW]; exact (Box.new rfl).old _
 have Bq : Box W1 (w.heap.size + 1) [.int .i64 q.x, .int .i64 q.y] 30 := by rw [hW]; exact Box.new (by simp)
 have hw : Below w.heap.size w W1 := by rw [hW]; go_grown
 clear hW
 refine (nleft p q _).mono ?_
 rintro e w2 ⟨rfl, hb⟩
 replace Bp := Bp.ee hb
 replace Bq := Bq.ee hb
 replace hw := upB hw hb
 clear hb
 have Fp := Bp.facts
 have Fq := Bq.facts
 go_wp2
 go_ret
 exact ⟨rfl, by have hl := hw.size; go_grown⟩
abbrev awZ : Tri3 := ⟨⟨0, 0⟩, ⟨0, 0⟩, ⟨0, 0⟩⟩
abbrev awS : Tri3 := ⟨⟨0, 0⟩, ⟨1, 0⟩, ⟨1, 1⟩⟩
abbrev awT : Tri3 := ⟨⟨0, 0⟩, ⟨1, 1⟩, ⟨0, 1⟩⟩
abbrev awU : Tri3 := mk ⟨0, 1⟩ ⟨0, 0⟩ ⟨1, 0⟩
abbrev awV : Tri3 := mk ⟨1, 0⟩ ⟨1, 1⟩ ⟨0, 1⟩
def awE : Es := (putRun [] [awT, awS]).2
def awF : Es := (putRun (takeRun awE [awT, awS]).2 [awU, awV]).2
theorem aw_f1 : (putRun [] [awT, awS]).1 = 2 := by decide
theorem aw_f2 : (putRun [] [awS, awS]).1 < 2 := by decide
theorem aw_f3 : (putRun [] [awZ]).1 < 1 := by decide
theorem aw_f4 : srt cmpT (heads (fun _ => true) awE) = [awS, awT] := by
 unfold srt; rw [show heads (fun _ => true) awE = [awS, awT] by kernel_rfl]; exact List.mergeSort_of_pairwise (by decide)
theorem aw_f5 : acrE awE awS 2 = (awT, true) := by kernel_rfl
theorem aw_f6 : acrE awE awS 0 = (awZ, false) := by kernel_rfl
theorem aw_f7 : getE awE (⟨0, 0⟩, ⟨1, 1⟩) = some awT := by kernel_rfl
theorem aw_f8 : getE awE (⟨1, 1⟩, ⟨0, 0⟩) = some awS := by kernel_rfl
theorem aw_f9 : apx awT ⟨0, 0⟩ ⟨1, 1⟩ = ⟨0, 1⟩ := by kernel_rfl
theorem aw_f10 : apx awS ⟨0, 0⟩ ⟨1, 1⟩ = ⟨1, 0⟩ := by kernel_rfl
theorem aw_f11 : meetS ⟨0, 0⟩ ⟨1, 1⟩ ⟨0, 1⟩ ⟨1, 0⟩ = 1 := by kernel_rfl
theorem aw_f12 : (takeRun awE [awT, awS]).1 = 2 := by kernel_rfl
theorem aw_f13 : (putRun (takeRun awE [awT, awS]).2 [awU, awV]).1 = 2 := by kernel_rfl
theorem aw_f14 : getE awF (⟨0, 0⟩, ⟨1, 1⟩) = none := by kernel_rfl
theorem aw_f15 : hasE awF awS = false := by kernel_rfl
theorem aw_f16 : awF.length = 3 * 2 := by kernel_rfl
theorem aw_f17 : awE.length ≤ 1000000 := by rw [show awE.length = 6 by kernel_rfl]; decide
theorem aw_f18 {Mz : List Pt} (h : Rising cmpP Mz) (hm : ∀ p, p ∈ Mz ↔ p ∈ froms awF) : Mz.length = 4 := by
 have e : Mz = [⟨0, 0⟩, ⟨0, 1⟩, ⟨1, 0⟩, ⟨1, 1⟩] := zE4 wholeP h (by unfold Rising; decide) (fun p => by
  rw [hm p, show froms awF = froms awF from rfl]
  constructor
  ·exact (show ∀ x ∈ froms awF, x ∈ ([⟨0, 0⟩, ⟨0, 1⟩, ⟨1, 0⟩, ⟨1, 1⟩] : List Pt) by decide) p
  ·exact (show ∀ x ∈ ([⟨0, 0⟩, ⟨0, 1⟩, ⟨1, 0⟩, ⟨1, 1⟩] : List Pt), x ∈ froms awF by decide) p)
 rw [e]; rfl
end Go.Proofs.YtmobnmjjmafibaaGreat
namespace Go.Proofs.YtmobnmjjmafibaaGreat
open Go.RowKit Go.Sort
section
variable {P : Program} {ops : Array Oper} {md : Region.Mode} {C : World → Prop}
def doneB (n : Nat) (listed : Array Bool) : Bool := (List.range n).all fun i => listed.getD i false
def seqL (md : Region.Mode) (ops : Array Oper) : List Nat → Array Bool → Bool
 | [], listed => (Region.ready md ops listed).isEmpty
 | k :: js, listed => decide (Region.ready md ops listed = [k]) && seqL md ops js (listed.setIfInBounds k true)
theorem zE1 {Q : Exit → Act → World → Prop} : ∀ (js : List Nat) (l : List Oper) (listed : Array Bool) (a : Act) (w : World), js.map (fun j => ops[j]?) = l.map some →
    seqL md ops js listed = true → wpList P ops Q l a w → wpAny P md ops Q js.length listed a w
 | [], [], _, _, _, _, hB, h => ⟨by simpa [seqL] using hB, h⟩
 | [], _ :: _, _, _, _, hl, _, _ => by cases hl
 | _ :: _, [], _, _, _, hl, _, _ => by cases hl
 | k :: js, o :: l, listed, a, w, hl, hB, h => by
  simp only [List.map_cons, List.cons.injEq] at hl
  obtain ⟨h0, hl⟩ := hl
  simp only [seqL, Bool.and_eq_true, decide_eq_true_eq] at hB
  refine ⟨fun h1 => (by rw [hB.1] at h1; cases h1), fun i hi => ?_⟩
  rw [hB.1] at hi
  have hik : i = k := by simpa using hi
  subst hik
  have hw : wpOp P ops Q i (wpList P ops Q l) a w := by unfold wpOp; simp only [h0]; exact h
  exact wpOp_mono (fun a' w' h' => zE1 js l _ a' w' hl hB.2 h') hw
end
def orderPre (md : Region.Mode) (ops : Array Oper) (n : Nat) : List Nat → Array Bool → Bool
 | [], _ => true
 | k :: is, listed => decide (k < n) && (Region.ready md ops listed).contains k && Region.free md ops listed k && orderPre md ops n is (listed.setIfInBounds k true)
def listAll : List Nat → Array Bool → Array Bool
 | [], l => l
 | k :: is, l => listAll is (l.setIfInBounds k true)
section
variable {P : Program} {C : World → Prop}
end
section
variable {P : Program} {ops : Array Oper} {md : Region.Mode} {C : World → Prop}
def downB (md : Region.Mode) (ops : Array Oper) (n : Nat) : Bool :=
 (List.range ops.size).all fun t => decide (t ≤ n) || (List.range ops.size).any fun j => decide (n ≤ j) && Region.waitsFor md ops t j
theorem zGp {n : Nat} {listed : Array Bool} (hs : Region.sinkB md ops n = true) (hd : downB md ops n = true) (hn : n < ops.size) (inv : HeadInv md ops n listed) : TailWaits md ops n listed := by
 intro i hi hun t ht hr
 obtain ⟨_, ot, hot, hall⟩ := mem_ready.1 hr
 have htlt : t < ops.size := (Array.getElem?_eq_some_iff.1 hot).1
 by_cases htn : t = n
 ·subst htn
  have low : ∀ (d i : Nat), t - i = d → i < t → listed.getD i true = false → False := by
   intro d
   induction d using Nat.strongRecOn with
   | _ d ih =>
    intro i hd' hi hun
    have h1 := List.all_eq_true.1 hs i (List.mem_range.2 hi)
    obtain ⟨j, hj, h2⟩ := List.any_eq_true.1 h1
    have hj' := List.mem_range.1 hj
    simp only [Bool.and_eq_true, decide_eq_true_eq] at h2
    obtain ⟨hij, hw⟩ := h2
    unfold Region.waitsFor at hw
    cases hoj : ops[j]? with
    | none => rw [hoj] at hw; cases hw
    | some oj =>
     rw [hoj] at hw
     obtain ⟨e, he, hb⟩ := Array.any_eq_true'.1 hw
     simp only [Bool.and_eq_true, beq_iff_eq] at hb
     by_cases hjt : j = t
     ·subst hjt
      have : ot = oj := Option.some.inj (hot.symm.trans hoj)
      subst this
      have h3 := hall e he (by first | exact hb.1 | exact hb.2)
      have h4 : e.on = i := by first | exact hb.2 | exact hb.1
      rw [h4, getD_both hun] at h3; cases h3
     ·refine ih (t - j) (by omega) j rfl (by omega) ?_
      cases hl : listed.getD j true with
      | false => rfl
      | true =>
       have hjs : j < listed.size := by rw [inv.size]; omega
       have hl' : listed.getD j false = true := by simpa [hjs] using hl
       have h3 := inv.closed j oj hoj hl' e he (by first | exact hb.1 | exact hb.2)
       have h4 : e.on = i := by first | exact hb.2 | exact hb.1
       rw [h4, getD_both hun] at h3; cases h3
  exact low _ i rfl hi hun
 ·have h1 := List.all_eq_true.1 hd t (List.mem_range.2 htlt)
  simp only [Bool.or_eq_true, decide_eq_true_eq] at h1
  rcases h1 with h1 | h1
  ·omega
  ·obtain ⟨j, hj, h2⟩ := List.any_eq_true.1 h1
   simp only [Bool.and_eq_true, decide_eq_true_eq] at h2
   obtain ⟨hnj, hw⟩ := h2
   unfold Region.waitsFor at hw
   rw [hot] at hw
   obtain ⟨e, he, hb⟩ := Array.any_eq_true'.1 hw
   simp only [Bool.and_eq_true, beq_iff_eq] at hb
   have h3 := hall e he (by first | exact hb.1 | exact hb.2)
   have h4 : e.on = j := by first | exact hb.2 | exact hb.1
   rw [h4, getD_both (inv.tail j hnj (List.mem_range.1 hj))] at h3; cases h3
theorem zE6 {n : Nat} {S : Array Bool → Bool} : ∀ (is js : List Nat) (l : Array Bool), orderPre md ops n is l = true → orderG md ops n S js (listAll is l) = true → orderG md ops n S (is ++ js) l = true
 | [], _, _, _, h => h
 | k :: is, js, l, h1, h2 => by
  simp only [orderPre, Bool.and_eq_true] at h1
  simp only [List.cons_append, orderG, Bool.and_eq_true]
  exact ⟨h1.1, zE6 is js _ h1.2 h2⟩
def orderInG (md : Region.Mode) (ops : Array Oper) (n : Nat) : List (List Nat) → Array Bool → Prop
 | [], _ => True
 | is :: cs, l => orderPre md ops n is l = true ∧ orderInG md ops n cs (listAll is l)
theorem zCz {n : Nat} {S : Array Bool → Bool} : ∀ (cs : List (List Nat)) (l : Array Bool), orderInG md ops n cs l → S (listAll cs.flatten l) = true → orderG md ops n S cs.flatten l = true
 | [], _, _, h => h
 | is :: cs, l, h, hS => by
  rw [List.flatten_cons]
  refine zE6 is _ l h.1 (zCz cs _ h.2 ?_)
  rw [List.flatten_cons, show ∀ (is js : List Nat) (l : Array Bool), listAll (is ++ js) l = listAll js (listAll is l) from fun is => by
   induction is with
   | nil => intro js l; rfl
   | cons k is ih => intro js l; exact ih js _] at hS
  exact hS
theorem zF9 {n : Nat} : ∀ (is : List Nat) (l : Array Bool), HeadInv md ops n l → orderPre md ops n is l = true → HeadInv md ops n (listAll is l)
 | [], _, h, _ => h
 | k :: is, l, h, hB => by
  simp only [orderPre, Bool.and_eq_true, decide_eq_true_eq] at hB
  exact zF9 is _ (h.set (by simpa using hB.1.1.2) hB.1.1.1) hB.2
theorem zDh : ∀ (is js : List Nat) (l : Array Bool), listAll (is ++ js) l = listAll js (listAll is l)
 | [], _, _ => rfl
 | _ :: is, js, _ => zDh is js _
theorem zGk {n : Nat} : ∀ (cs : List (List Nat)) (l : Array Bool), HeadInv md ops n l → orderInG md ops n cs l → HeadInv md ops n (listAll cs.flatten l)
 | [], _, h, _ => h
 | is :: cs, l, h, hB => by
  rw [List.flatten_cons, zDh]
  exact zGk cs _ (zF9 is l h hB.1) hB.2
def canon (ops : Array Oper) (n : Nat) : Array Bool := listAll (List.range n) (Array.replicate ops.size false)
theorem wp_region_once {id : Nat} {Q : Exit → Act → World → Prop} {a : Act} {w : World} {l : List Oper} (n1 n2 : Nat) (c1 c2 : List (List Nat)) (js : List Nat) {o : Oper} (hm : P.follows .mixedOrders = true)
    (hsel : Region.noSelect l.toArray = true) (hn : n1 + (((n2 - (n1 + 1)) + js.length) + 1) = l.toArray.size) (hn2 : n1 < n2) (hn3 : n2 < l.toArray.size)
    (hs1 : Region.sinkB .any l.toArray n1 = true) (hd1 : downB .any l.toArray n1 = true) (hs2 : Region.sinkB .any l.toArray n2 = true) (hd2 : downB .any l.toArray n2 = true)
    (hc1 : c1.flatten = List.range n1) (hc2 : c2.flatten = List.range' (n1 + 1) (n2 - (n1 + 1)))
    (ho1 : orderInG .any l.toArray n1 c1 (Array.replicate l.toArray.size false)) (hmid : (doneB n1 (canon l.toArray n1) && decide (Region.ready .any l.toArray (canon l.toArray n1) = [n1])) = true)
    (ho2 : orderInG .any l.toArray n2 c2 ((canon l.toArray n1).setIfInBounds n1 true))
    (hend : (doneB n2 (listAll (List.range' (n1 + 1) (n2 - (n1 + 1))) ((canon l.toArray n1).setIfInBounds n1 true)) && seqL .any l.toArray js (listAll (List.range' (n1 + 1) (n2 - (n1 + 1))) ((canon l.toArray n1).setIfInBounds n1 true))) = true)
    (hf : l.toArray[n1]? = some o) (hjs : js.map (fun j => l.toArray[j]?) = (l.drop n2).map some)
    (h1 : (List.range n1).map (fun i => l.toArray[i]?) = (l.take n1).map some) (h2 : (List.range' (n1 + 1) (n2 - (n1 + 1))).map (fun i => l.toArray[i]?) = ((l.drop (n1 + 1)).take (n2 - (n1 + 1))).map some)
    (hC : ∀ w', Below w.heap.size w w' → C w')
    (h : rWalk P l.toArray C (fun a1 => Region.wanted o (yielded l.toArray a1.tmps) = true ∧ ∀ w', Below w.heap.size w w' → o.wp P a1 w' (fun a2 w2 => Below w.heap.size w w2 ∧ rWalk P l.toArray C (fun a3 => ∀ w', Below w.heap.size w w' → wpList P l.toArray Q (l.drop n2) a3 w') ((l.drop (n1 + 1)).take (n2 - (n1 + 1))) a2) Q) (l.take n1) a) : (Code.region id l.toArray true).wp P Q a w := by
 simp only [Bool.and_eq_true, decide_eq_true_eq] at hmid
 have inv1 : HeadInv .any l.toArray n1 (canon l.toArray n1) := by
  have := zGk c1 _ (headInv0 (md := .any) (ops := l.toArray) (n := n1)) ho1
  rwa [hc1] at this
 have inv2 : HeadInv .any l.toArray n2 ((canon l.toArray n1).setIfInBounds n1 true) :=
  HeadInv.set (n := n2) ⟨inv1.size, inv1.closed, fun t ht ht' => inv1.tail t (by omega) ht'⟩ (by rw [hmid.2]; simp) hn2
 have H := zDt (md := .any) (C := C) (S := fun m => decide (m = canon l.toArray n1 ∧ True)) hsel (HeadInv .any l.toArray n1) (fun listed j inv hj hjn => inv.set hj hjn)
  (fun listed inv => zGp hs1 hd1 (by omega) inv)
  (fun listed hS => by have := of_decide_eq_true hS; rw [this.1]; exact zDj hmid.1) (List.range n1) (l.take n1) _ a h1 headInv0 (by rw [← hc1]; exact zCz c1 _ ho1 (by rw [hc1]; exact decide_eq_true ⟨rfl, trivial⟩)) h
 refine wp_region_any hm ?_
 have := zFl (md := .any) (Q := Q) (g := ((n2 - (n1 + 1)) + js.length) + 1) (D := fun w' => Below w.heap.size w w') hC (fun a b ha hb => Ext.trans (a := w) ha hb)
  (fun listed a1 w1 hw1 hL => by
   obtain ⟨hS, hwa, hy⟩ := hL
   have hS := (of_decide_eq_true hS).1
   subst hS
   refine ⟨fun h1 => (by rw [hmid.2] at h1; cases h1), fun i hi => ?_⟩
   rw [hmid.2] at hi
   have hik : i = n1 := by simpa using hi
   subst hik
   unfold wpOp
   simp only [hf, hwa, if_true]
   refine Or.inl (Oper.wp_mono (fun a2 w2 hK => ?_) (hy w1 hw1))
   obtain ⟨hw2, hK⟩ := hK
   have H2 := zDt (md := .any) (C := C) (S := fun m => doneB n2 m && seqL .any l.toArray js m) hsel (HeadInv .any l.toArray n2) (fun listed j inv hj hjn => inv.set hj hjn)
    (fun listed inv => zGp hs2 hd2 hn3 inv)
    (fun listed hS => zDj (by simp only [Bool.and_eq_true] at hS; exact hS.1)) (List.range' (i + 1) (n2 - (i + 1))) ((l.drop (i + 1)).take (n2 - (i + 1))) _ _ h2 inv2 (by rw [← hc2]; exact zCz c2 _ ho2 (by rw [hc2]; exact hend)) hK
   have := zFl (md := .any) (Q := Q) (g := js.length) (D := fun w' => Below w.heap.size w w') hC (fun a b ha hb => Ext.trans (a := w) ha hb)
    (fun listed a3 w3 hw3 hL => by
     obtain ⟨hS, hK⟩ := hL
     simp only [Bool.and_eq_true] at hS
     exact zE1 js _ listed a3 w3 hjs hS.2 (hK w3 hw3)) _ _ _ w2 hw2 H2
   rw [List.length_range'] at this
   exact this) _ _ _ { w with drawn := w.drawn + 1 } ⟨rfl, rfl, rfl, Nat.le_refl _, fun _ _ => rfl⟩ H
 rw [List.length_range, hn] at this
 exact this
end
attribute [local go_sem] rOper rAt rUpon cell_set sg_i64 sg_u64 alloc_cell alloc_frozen
attribute [local go_sem 10000] pt_eql pt_neq tri_eql
attribute [local irreducible] rWalk
attribute [local go_sem 10000] tri_neq
theorem okT_aw : okT awS ∧ okT awT ∧ okT awZ ∧ okT awU ∧ okT awV := by
 simp only [awU, awV, show mk ⟨0, 1⟩ ⟨0, 0⟩ ⟨1, 0⟩ = ⟨⟨0, 0⟩, ⟨1, 0⟩, ⟨0, 1⟩⟩ by kernel_rfl, show mk ⟨1, 0⟩ ⟨1, 1⟩ ⟨0, 1⟩ = ⟨⟨0, 1⟩, ⟨1, 0⟩, ⟨1, 1⟩⟩ by kernel_rfl]
 unfold okT okP okI; decide
theorem zHx (w : World) :
    Calls Tryz.prog 29 #[] w fun e w' => e = .returned (.bool true) ∧ Below w.heap.size w w' := by
 go_enter Tryz.func29, Tryz.ntmps29
 obtain ⟨oS, oT, oZ, oU, oV⟩ := okT_aw
 have cn1 := fun a w R => mnew_1 a 2 2 [awT, awS] (Lib.hid rfl) (by decide) (by simpa using ⟨oT, oS⟩) aw_f1 w R
 have cn2 := fun a w R => mnew_0 a 2 2 [awS, awS] (Lib.hid rfl) (by decide) (by simpa using oS) aw_f2 w R
 have cn3 := fun a w R => mnew_0 a 1 1 [awZ] (Lib.hid rfl) (by decide) (by simpa using oZ) aw_f3 w R
 go_wp2_with fail
 refine zA1 fun W1 hW => ?_
 have Bs : Box W1 (w.heap.size) [.int .i64 0, .int .i64 0, .int .i64 1, .int .i64 0, .int .i64 1, .int .i64 1] 38 := by rw [hW]; exact ((Box.new rfl).old _).old _
 have Bt : Box W1 (w.heap.size + 1) [.int .i64 0, .int .i64 0, .int .i64 1, .int .i64 1, .int .i64 0, .int .i64 1] 38 := by rw [hW]; exact (Box.new (by simp)).old _
 have Bl1 : Box W1 (w.heap.size + 1 + 1) [.int .i64 0, .int .i64 0, .int .i64 1, .int .i64 1, .int .i64 0, .int .i64 1, .int .i64 0, .int .i64 0, .int .i64 1, .int .i64 0, .int .i64 1, .int .i64 1] 38 := by rw [hW]; exact Box.new (by simp)
 have hw : Below w.heap.size w W1 := by rw [hW]; go_grown
 clear hW
 have R1 : RowAt cT 6 W1 (some ⟨w.heap.size + 1 + 1, 0, none⟩) [awT, awS] := zBg (S := [awT, awS]) Bl1
 refine (cn1 _ _ R1).mono ?_
 rintro e w2 ⟨mb, b, rfl, Bm, Hm0, hbb, hmb, hb⟩
 have hwb : w.heap.size ≤ b := Nat.le_trans hw.size hbb
 clear R1 Bl1 cn1 hbb hmb
 replace Bs := Bs.ee hb
 replace Bt := Bt.ee hb
 have hw0 := (upB hw hb)
 clear hb hw
 have Hm : HoldsMap eW eT okW w2 b awE := Hm0
 clear Hm0
 have hw : Below w2.heap.size w2 w2 := Below.refl _ _
 have Fs := Bs.facts
 have Ft := Bt.facts
 go_wp2_with fail
 clear Fs Ft
 refine zA1 fun W21 hW => ?_
 obtain ⟨bkl2, hbl2⟩ : ∃ b, w2.heap.size = b := ⟨_, rfl⟩
 rw [hbl2]
 have lsl2 := Bs.lt
 rw [hbl2] at lsl2
 have ltl2 := Bt.lt
 rw [hbl2] at ltl2
 have fl2 := hw.size
 rw [hbl2] at fl2
 have Bl2 : Box W21 bkl2 [.int .i64 0, .int .i64 0, .int .i64 1, .int .i64 0, .int .i64 1, .int .i64 1, .int .i64 0, .int .i64 0, .int .i64 1, .int .i64 0, .int .i64 1, .int .i64 1] 38 := by rw [hW]; exact Box.new hbl2.symm
 replace Bs : Box W21 (w.heap.size) [.int .i64 0, .int .i64 0, .int .i64 1, .int .i64 0, .int .i64 1, .int .i64 1] 38 := by rw [hW]; exact Bs.old _
 replace Bt : Box W21 (w.heap.size + 1) [.int .i64 0, .int .i64 0, .int .i64 1, .int .i64 1, .int .i64 0, .int .i64 1] 38 := by rw [hW]; exact Bt.old _
 replace hw : Below w2.heap.size w2 W21 := by have hl := hw.size; rw [hW]; go_grown
 clear hW hbl2
 refine (cn2 _ _ (zBg (S := [awS, awS]) Bl2)).mono ?_
 rintro e w22 ⟨rfl, hb⟩
 replace Bs := Bs.ee hb
 replace Bt := Bt.ee hb
 replace Bl2 := Bl2.ee hb
 replace hw := upB hw hb
 clear hb
 clear Bl2 cn2
 have Fs := Bs.facts
 have Ft := Bt.facts
 go_wp2_with fail
 clear Fs Ft
 refine zA1 fun W23 hW => ?_
 obtain ⟨bkl3, hbl3⟩ : ∃ b, w22.heap.size = b := ⟨_, rfl⟩
 rw [hbl3]
 have lsl3 := Bs.lt
 rw [hbl3] at lsl3
 have ltl3 := Bt.lt
 rw [hbl3] at ltl3
 have fl3 := hw.size
 rw [hbl3] at fl3
 have Bl3 : Box W23 bkl3 [.int .i64 0, .int .i64 0, .int .i64 0, .int .i64 0, .int .i64 0, .int .i64 0] 38 := by rw [hW]; exact Box.new hbl3.symm
 replace Bs : Box W23 (w.heap.size) [.int .i64 0, .int .i64 0, .int .i64 1, .int .i64 0, .int .i64 1, .int .i64 1] 38 := by rw [hW]; exact Bs.old _
 replace Bt : Box W23 (w.heap.size + 1) [.int .i64 0, .int .i64 0, .int .i64 1, .int .i64 1, .int .i64 0, .int .i64 1] 38 := by rw [hW]; exact Bt.old _
 replace hw : Below w2.heap.size w2 W23 := by have hl := hw.size; rw [hW]; go_grown
 clear hW hbl3
 refine (cn3 _ _ (zBg (S := [awZ]) Bl3)).mono ?_
 rintro e w24 ⟨rfl, hb⟩
 replace Bs := Bs.ee hb
 replace Bt := Bt.ee hb
 replace Bl3 := Bl3.ee hb
 replace hw := upB hw hb
 clear hb
 clear Bl3 cn3
 have Fs := Bs.facts
 have Ft := Bt.facts
 go_wp2_with fail
 have ct := fun w B H => zFs mb b awE aw_f17 w B H
 rw [aw_f4] at ct
 refine (ct _ (Bm.ee hw) (Hm.ee hw)).mono ?_
 rintro e w30 ⟨a, cap, rfl, hr, hb⟩
 clear Fs Ft
 replace Bs := Bs.ee hb
 replace Bt := Bt.ee hb
 have hwr := (upB hw hb)
 replace Bm := Bm.ee hwr
 replace Hm := Hm.ee hwr
 replace hw0 := upB hw0 hwr
 clear hw ct hwr hb
 have hw : Below w30.heap.size w30 w30 := Below.refl _ _
 have ca2 : ∀ (w : World) (Bm : Box w mb [.map (some b)] 89) (Hm : HoldsMap eW eT okW w b awE), Calls Tryz.prog 66 #[.pointer (some ⟨mb, 0, none⟩), .agg #[.int .i64 0, .int .i64 0, .int .i64 1, .int .i64 0, .int .i64 1, .int .i64 1], .int .i64 2] w fun e w' => e = .returned (.tuple #[.agg #[.int .i64 0, .int .i64 0, .int .i64 1, .int .i64 1, .int .i64 0, .int .i64 1], .bool true]) ∧ Below w.heap.size w w' := fun w B H => by have := zGt mb b awE awS 2 oS w B H; rw [aw_f5] at this; exact this
 have ca0 : ∀ (w : World) (Bm : Box w mb [.map (some b)] 89) (Hm : HoldsMap eW eT okW w b awE), Calls Tryz.prog 66 #[.pointer (some ⟨mb, 0, none⟩), .agg #[.int .i64 0, .int .i64 0, .int .i64 1, .int .i64 0, .int .i64 1, .int .i64 1], .int .i64 0] w fun e w' => e = .returned (.tuple #[.agg #[.int .i64 0, .int .i64 0, .int .i64 0, .int .i64 0, .int .i64 0, .int .i64 0], .bool false]) ∧ Below w.heap.size w w' := fun w B H => by have := zGt mb b awE awS 0 oS w B H; rw [aw_f6] at this; exact this
 have Fs := Bs.facts
 have Ft := Bt.facts
 go_wp2_with fail
 refine (ca2 _ (Bm.ee hw) (Hm.ee hw)).mono ?_
 rintro e w31 ⟨rfl, hb⟩
 clear Fs Ft
 replace Bs := Bs.ee hb
 replace Bt := Bt.ee hb
 replace hw := upB hw hb
 clear hb
 skip
 have Fs := Bs.facts
 have Ft := Bt.facts
 go_wp2_with fail
 clear Fs Ft
 refine zA1 fun W32 hW => ?_
 obtain ⟨bkx, hbx⟩ : ∃ b, w31.heap.size = b := ⟨_, rfl⟩
 rw [hbx]
 have lsx := Bs.lt
 rw [hbx] at lsx
 have ltx := Bt.lt
 rw [hbx] at ltx
 have fx := hw.size
 rw [hbx] at fx
 have Bx : Box W32 bkx [.int .i64 0, .int .i64 0, .int .i64 1, .int .i64 1, .int .i64 0, .int .i64 1] 38 := by rw [hW]; exact Box.new hbx.symm
 replace Bs : Box W32 (w.heap.size) [.int .i64 0, .int .i64 0, .int .i64 1, .int .i64 0, .int .i64 1, .int .i64 1] 38 := by rw [hW]; exact Bs.old _
 replace Bt : Box W32 (w.heap.size + 1) [.int .i64 0, .int .i64 0, .int .i64 1, .int .i64 1, .int .i64 0, .int .i64 1] 38 := by rw [hW]; exact Bt.old _
 replace hw : Below w30.heap.size w30 W32 := by have hl := hw.size; rw [hW]; go_grown
 clear hW hbx
 refine (ca0 _ (Bm.ee hw) (Hm.ee hw)).mono ?_
 rintro e w33 ⟨rfl, hb⟩
 replace Bs := Bs.ee hb
 replace Bt := Bt.ee hb
 replace Bx := Bx.ee hb
 replace hw := upB hw hb
 clear hb
 have Fs := Bs.facts
 have Ft := Bt.facts
 have Fx := Bx.facts
 go_wp2_with fail
 clear Fs Ft Fx
 refine zA1 fun W34 hW => ?_
 obtain ⟨bky, hby⟩ : ∃ b, w33.heap.size = b := ⟨_, rfl⟩
 rw [hby]
 have lsy := Bs.lt
 rw [hby] at lsy
 have lty := Bt.lt
 rw [hby] at lty
 have lxy := Bx.lt
 rw [hby] at lxy
 have fy := hw.size
 rw [hby] at fy
 have By : Box W34 bky [.int .i64 0, .int .i64 0, .int .i64 0, .int .i64 0, .int .i64 0, .int .i64 0] 38 := by rw [hW]; exact Box.new hby.symm
 replace Bs : Box W34 (w.heap.size) [.int .i64 0, .int .i64 0, .int .i64 1, .int .i64 0, .int .i64 1, .int .i64 1] 38 := by rw [hW]; exact Bs.old _
 replace Bt : Box W34 (w.heap.size + 1) [.int .i64 0, .int .i64 0, .int .i64 1, .int .i64 1, .int .i64 0, .int .i64 1] 38 := by rw [hW]; exact Bt.old _
 replace Bx : Box W34 (bkx) [.int .i64 0, .int .i64 0, .int .i64 1, .int .i64 1, .int .i64 0, .int .i64 1] 38 := by rw [hW]; exact Bx.old _
 replace hw : Below w30.heap.size w30 W34 := by have hl := hw.size; rw [hW]; go_grown
 clear hW hby
 clear ca0 ca2
 have cf : ∀ (w : World) (Bm : Box w mb [.map (some b)] 89) (Hm : HoldsMap eW eT okW w b awE), Calls Tryz.prog 39 #[.pointer (some ⟨mb, 0, none⟩), .agg #[.int .i64 0, .int .i64 0], .agg #[.int .i64 1, .int .i64 1]] w fun e w' => e = .returned (.int .i64 0) ∧ w.grownBy w' (some b) ∧ HoldsMap eW eT okW w' b awF := fun w B H => flip_ok mb b awE ⟨0, 0⟩ ⟨1, 1⟩ ⟨oT.1, oT.2.1⟩ awT awS awU awV ⟨0, 1⟩ ⟨1, 0⟩ aw_f7 aw_f8 aw_f9 aw_f10 aw_f11 rfl rfl oT oS oU oV aw_f12 aw_f13 w B H
 refine (cf _ (Bm.ee hw) (Hm.ee hw)).mono ?_
 rintro e w40 ⟨rfl, hg, H40⟩
 replace Bs := Bs.turn (Hm.ee hw) hg
 replace Bt := Bt.turn (Hm.ee hw) hg
 replace Bx := Bx.turn (Hm.ee hw) hg
 replace By := By.turn (Hm.ee hw) hg
 replace hr := (hr.ee hw).turn cT_ne (Hm.ee hw) hg
 replace Bm := (Bm.ee hw).turn (Hm.ee hw) hg
 replace hw0 := upB hw0 hw
 replace hw0 := zB9 hw0 hg hw0.size hwb
 clear Hm hg hw cf hwb
 have Hm := H40
 clear H40
 have hw : Below w40.heap.size w40 w40 := Below.refl _ _
 have Fs := Bs.facts
 have Ft := Bt.facts
 have Fx := Bx.facts
 have Fy := By.facts
 go_wp2_with fail
 refine (flip_n0 mb b awF ⟨0, 0⟩ ⟨1, 1⟩ ⟨oT.1, oT.2.1⟩ aw_f14 _ (Bm.ee hw) (Hm.ee hw)).mono ?_
 rintro e w41 ⟨rfl, hb⟩
 clear Fs Ft Fx Fy
 replace Bs := Bs.ee hb
 replace Bt := Bt.ee hb
 replace Bx := Bx.ee hb
 replace By := By.ee hb
 replace hw := upB hw hb
 clear hb
 obtain ⟨ad, A, rfl, eA, hA0⟩ := hr.six (j := 0) (by decide)
 have hA1 : Six w40 A awS := hA0
 clear hA0 hr
 simp only [Nat.zero_mul] at eA
 have Fs := Bs.facts
 have Ft := Bt.facts
 have Fx := Bx.facts
 have Fy := By.facts
 go_wp2_with fail
 clear Fs Ft Fx Fy
 refine zA2 fun W42 hW => ?_
 replace hw : Below w40.heap.size w40 W42 := by rw [hW]; exact hw
 replace Bs : Box W42 (w.heap.size) [.int .i64 0, .int .i64 0, .int .i64 1, .int .i64 0, .int .i64 1, .int .i64 1] 38 := by rw [hW]; exact Bs
 replace Bt : Box W42 (w.heap.size + 1) [.int .i64 0, .int .i64 0, .int .i64 1, .int .i64 1, .int .i64 0, .int .i64 1] 38 := by rw [hW]; exact Bt
 replace Bx : Box W42 (bkx) [.int .i64 0, .int .i64 0, .int .i64 1, .int .i64 1, .int .i64 0, .int .i64 1] 38 := by rw [hW]; exact Bx
 replace By : Box W42 (bky) [.int .i64 0, .int .i64 0, .int .i64 0, .int .i64 0, .int .i64 0, .int .i64 0] 38 := by rw [hW]; exact By
 clear hW
 have hA := hA1.ee hw
 obtain ⟨t0, t1, t2, t3, t4, t5⟩ := hA.cells
 have BM : Box W42 mb [.map (some b)] 89 := Bm.ee hw
 have HM : HoldsMap eW eT okW W42 b awF := Hm.ee hw
 have dh : ∀ d os, Calls Tryz.prog 37 #[.pointer (some ⟨mb, 0, none⟩), .agg #[.int .i64 0, .int .i64 0, .int .i64 1, .int .i64 0, .int .i64 1, .int .i64 1]] (grow (redrawn W42 d) os) fun e w' => e = .returned (.bool false) ∧ Below (grow (redrawn W42 d) os).heap.size (grow (redrawn W42 d) os) w' := fun d os => by have := zD1 mb b awF awS oS _ (BM.ext (below_regrown W42 d os) rfl) (HM.ext (below_regrown W42 d os) rfl); first | exact this | (rw [aw_f15] at this; exact this)
 have dl : ∀ d os, Calls Tryz.prog 20 #[.pointer (some ⟨mb, 0, none⟩)] (grow (redrawn W42 d) os) fun e w' => e = .returned (.int .i64 2) ∧ Below (grow (redrawn W42 d) os).heap.size (grow (redrawn W42 d) os) w' := fun d os => by have := zIh mb b awF 2 (Lib.hid aw_f16) (by decide) _ (BM.ext (below_regrown W42 d os) rfl) (HM.ext (below_regrown W42 d os) rfl); first | exact this | (rw [aw_f15] at this; exact this)
 have nh : ∀ w, Calls Tryz.prog 37 #[.pointer none, .agg #[.int .i64 0, .int .i64 0, .int .i64 1, .int .i64 0, .int .i64 1, .int .i64 1]] w fun e w' => e = .returned (.bool false) ∧ Below w.heap.size w w' := fun w => nhas awS w
 have nf : ∀ w, Calls Tryz.prog 39 #[.pointer none, .agg #[.int .i64 0, .int .i64 0], .agg #[.int .i64 1, .int .i64 1]] w fun e w' => e = .returned (.int .i64 16) ∧ Below w.heap.size w w' := fun w => nflip ⟨0, 0⟩ ⟨1, 1⟩ w
 have cp := fun w B H => mpoints_any mb b awF (by rw [aw_f16]; decide) w B H
 clear oS oT oZ oU oV hA hA1 Hm Bm
 have gs := Bs.cells
 have gt := Bt.cells
 have gx := Bx.cells
 have gy := By.cells
 try simp only [List.append]
 refine wp_region_once 51 75 [List.range' 0 16, List.range' 16 16, List.range' 32 16, List.range' 48 3] [List.range' 52 16, List.range' 68 7] [75] (by kernel_rfl) (by as_aux_lemma => kernel_rfl) rfl (by decide) (show 75 < 76 by decide) (by as_aux_lemma => kernel_rfl) (by as_aux_lemma => kernel_rfl) (by as_aux_lemma => kernel_rfl) (by as_aux_lemma => kernel_rfl) rfl rfl ⟨(by as_aux_lemma => kernel_rfl), (by as_aux_lemma => kernel_rfl), (by as_aux_lemma => kernel_rfl), (by as_aux_lemma => kernel_rfl), trivial⟩ (by as_aux_lemma => kernel_rfl) ⟨(by as_aux_lemma => kernel_rfl), (by as_aux_lemma => kernel_rfl), trivial⟩ (by as_aux_lemma => kernel_rfl) rfl rfl (by kernel_rfl) (by kernel_rfl) (C := fun w' => ∃ p : Regrown, w' = grow (redrawn W42 p.d) p.os) rgB ?_
 simp only [tK1, tK0, dP1, dP0]
 repeat (first | (refine zA0 (Eq.refl false) ?_; simp only [Act.put, sT2, sT1, sT0]) | (refine rWalk_step (fun K hK => ?_); go_simp; first | (refine hK _ ?_; clear hK K) | (apply Exists.intro; refine ⟨fun _ => ?_, hK _ ?_⟩; (first | with_reducible exact toExtD dh _ _ | with_reducible exact toExtD dl _ _); clear hK K)))
 refine rWalk_nil ⟨rfl, fun w50 hb => ?_⟩
 unfold Oper.wp
 go_simp
 refine (cp _ (BM.ee hb) (HM.ee hb)).mono ?_
 rintro e w51 ⟨M1, a5, cap5, rfl, hr5, hi5, hm5, hb5⟩
 have hM := aw_f18 hi5 hm5
 rw [hM]
 clear hM hi5 hm5 hr5
 dsimp only
 refine ⟨(upB hb hb5), ?_⟩
 clear hb hb5
 try simp only [Act.put, List.setIfInBounds_toArray, List.set_cons_succ, List.set_cons_zero, List.take_succ_cons, List.take_zero, List.drop_succ_cons, List.drop_zero]
 repeat (first | (refine zA0 (Eq.refl false) ?_; simp only [Act.put, sT2, sT1, sT0]) | (refine rWalk_step (fun K hK => ?_); go_simp; first | (refine hK _ ?_; clear hK K) | (apply Exists.intro; refine ⟨fun _ => ?_, hK _ ?_⟩; (first | with_reducible exact toExt (nlen) _ | with_reducible exact toExt nf _ | with_reducible exact toExt nh _); clear hK K)))
 refine rWalk_nil ?_
 intro w60 hb6
 go_wp2
 go_ret
 exact ⟨rfl, hw0.trans (((upB hw hb6)).mono hw0.size)⟩
end Go.Proofs.YtmobnmjjmafibaaGreat
namespace Go.Proofs.YtmobnmjjmafibaaGreat.FT
open Go.RowKit Go.Sort
variable {P : Program} {Q : Exit → Act → World → Prop}
theorem wp_region_flowC {id : Nat} {a : Act} {w : World} {l : List Oper} (n : Nat) (pl : Plan) (hm : P.follows .mixedOrders = true) (hB : (Region.noSelect l.toArray && decide (n < l.toArray.size) && Region.sinkB .any l.toArray n && Region.chainB .any l.toArray n && planB .any n l.toArray [] pl (Array.replicate l.toArray.size false)) = true)
    (hQ : ∀ c x v a w, Q (.panic c) (Act.put a x v) w → Q (.panic c) a w) {C : World → Prop} (hC : ∀ w', Below w.heap.size w w' → C w') (hcl : ∀ x y, Ext x y → C x → C y) (h : flow P l.toArray n Q pl C a w) : (Code.region id l.toArray true).wp P Q a w := by
 simp only [Bool.and_eq_true, decide_eq_true_eq] at hB
 obtain ⟨⟨⟨⟨h1, h2⟩, h3⟩, h4⟩, h5⟩ := hB
 refine wp_region_any hm ?_
 have hx : Ext w { w with drawn := w.drawn + 1 } := ⟨rfl, rfl, rfl, Nat.le_refl _, fun _ _ => rfl⟩
 exact zGm h1 h2 h3 h4 hQ _ pl C _ a w _ h5 headInv0 (by
  have := List.length_filter_le (fun i => !(Array.replicate l.toArray.size false).getD i true) (List.range n)
  rw [List.length_range] at this
  unfold undone
  omega) hcl (hC _ hx) hx h
end Go.Proofs.YtmobnmjjmafibaaGreat.FT
namespace Go.Proofs.YtmobnmjjmafibaaGreat
open Go.RowKit Go.Sort
attribute [local go_sem] rOper rAt rUpon cell_set sg_i64 sg_u64 alloc_cell alloc_frozen
attribute [local go_sem 10000] pt_eql pt_neq tri_eql
attribute [local irreducible] rWalk
attribute [local go_sem ↓ 10000] zCw
theorem mr_w1 {m ml : Nat} (h : ml + 1 = m) (hm : m ≤ 100) : wrap64 ((m : Int) - 1) = (ml : Int) := by rw [w64]; omega
theorem mr_w3 {m ml n9 : Nat} (h : ml + 1 = m) (hm : m ≤ 100) (h3 : n9 ≤ 3) : wrap64 ((ml : Int) + (n9 : Int)) = (n9 : Int) + (ml : Int) := by rw [w64]; omega
theorem mr_w2 {m ml n9 : Nat} (h : ml + 1 = m) (hm : m ≤ 100) (h3 : n9 ≤ 3) : wrap64 ((m : Int) - 1 + (n9 : Int)) = (n9 : Int) + (ml : Int) := by rw [w64]; omega
theorem mr_s {k m : Nat} (hm : m ≤ 100) (h : k < m) : wrap64 ((k : Int) + 1) = ((k + 1 : Nat) : Int) := by rw [w64]; omega
theorem mr_i {k m : Nat} (hm : m ≤ 100) (h : k < m) : IntKind.i64.wrap ((k : Int) + 1) = (k : Int) + 1 := by rw [IntKind.wrap_i64]; omega
theorem two_least {s : Int} (hs : 0 < s) {L : List Tri3} (h : ∀ q, (q = ⟨0, 0⟩ ∨ q = ⟨s, 0⟩ ∨ q = ⟨s, s⟩ ∨ q = ⟨0, s⟩) → someC L q) : 2 ≤ L.length := by
 obtain ⟨T1, m1, c1⟩ := h ⟨0, 0⟩ (.inl rfl)
 obtain ⟨T2, m2, c2⟩ := h ⟨s, 0⟩ (.inr (.inl rfl))
 obtain ⟨T3, m3, c3⟩ := h ⟨s, s⟩ (.inr (.inr (.inl rfl)))
 obtain ⟨T4, m4, c4⟩ := h ⟨0, s⟩ (.inr (.inr (.inr rfl)))
 match L, m1, m2, m3, m4 with
 | [], m1, _, _, _ => cases m1
 | [T], m1, m2, m3, m4 =>
  exfalso
  rw [List.mem_singleton] at m1 m2 m3 m4
  subst m1 m2 m3 m4
  have d : ∀ {a b x y : Int} {P : Pt}, (⟨a, b⟩ : Pt) = P → (⟨x, y⟩ : Pt) = P → a = x ∧ b = y := fun h k => by
   have := h.trans k.symm; simp only [Pt.mk.injEq] at this; exact this
  unfold isCnr at c1 c2 c3 c4
  rcases c1 with c1 | c1 | c1 <;> rcases c2 with c2 | c2 | c2 <;> first | (have := d c1 c2; omega) | skip
  all_goals rcases c3 with c3 | c3 | c3 <;> first | (have := d c1 c3; omega) | (have := d c2 c3; omega) | skip
  all_goals rcases c4 with c4 | c4 | c4 <;> first | (have := d c1 c4; omega) | (have := d c2 c4; omega) | (have := d c3 c4; omega)
 | _ :: _ :: _, _, _, _, _ => simp
theorem mr_no (s : Int) (a0 : Option Addr) (n c0 : Nat) (at' pn : Int) (hf : s < 1 ∨ 30 < s ∨ 15 < n) (w : World) :
    Calls Tryz.prog 7 #[.int .i64 s, .slice a0 n c0, .int .i64 at', .int .i64 pn] w fun e w' => e = .returned (.bool true) ∧ Below w.heap.size w w' := by
 have en : decide ((15 : Int) < (n : Int)) = decide (15 < n) := by simp; omega
 cases h1 : decide (s < 1) <;> cases h2 : decide ((30 : Int) < s) <;> cases h3 : decide ((15 : Int) < (n : Int))
 case false.false.false => rw [en] at h3; simp at h1 h2 h3; omega
 all_goals
  clear hf en
  go_enter Tryz.func7, Tryz.ntmps7
  go_wp2_with fail
  refine (zHx _).mono ?_
  rintro e w2 ⟨rfl, hb2⟩
  go_wp2
  go_ret
  exact ⟨rfl, hb2⟩
theorem mr_yes (s : Int) (hs : 0 < s) (hs2 : s ≤ 30) (a0 : Option Addr) (n c0 : Nat) (hn : n ≤ 15) (P : List Int) (hP : Hid (P.length = n)) (at' pn : Int) (w : World) (h0 : RowAt cI 1 w a0 P) :
    Calls Tryz.prog 7 #[.int .i64 s, .slice a0 n c0, .int .i64 at', .int .i64 pn] w fun e w' => e = .returned (.bool true) ∧ Below w.heap.size w w' := by
 have cn := rnewcdt_any s s hs hs (by omega) (by omega)
 have csp := fun x => spot_any s x hs (by omega)
 have HS := Lib.hid hs
 have HS2 := Lib.hid hs2
 have HN := Lib.hid hn
 have hsb : (s < 1) = False := by simp; omega
 have hsb2 : (30 < s) = False := by simp; omega
 have hnb : ((15 : Int) < (n : Int)) = False := by simp; omega
 go_enter Tryz.func7, Tryz.ntmps7
 go_wp2_with fail
 refine (cn _).mono ?_
 rintro e w1 ⟨cb, mb, b, db, v, E, L, D, rfl, S, hI, hL, hC, hD, hw, hb1, hb2, hb3, hb4⟩
 have hC' := Lib.hid (show ∀ q, someC L q ↔ PutPt s [] q from fun q => by rw [hC q]; simp [PutPt])
 have hI' := Lib.hid hI
 have hL' := Lib.hid (show L.length ≤ 2 + 2 * 0 by omega)
 have hD' := Lib.hid (show D.length ≤ 4 + 2 * 0 by rw [hD.length_eq]; simp)
 replace hb1 := Lib.hid hb1
 replace hb2 := Lib.hid hb2
 clear cn hI hL hC hD hsb hsb2 hnb hs hs2 hn
 go_wp2_with fail
 go_loopw [10] (fun vi wr => ∃ (k : Nat) (v : Value) (E : Es) (L : List Tri3) (D : List Wl), vi = .int .i64 k ∧ k ≤ n ∧ CdtAt wr cb mb b db v s s E D ∧ Hid (CInv s s E L D) ∧ Hid (∀ q, someC L q ↔ PutPt s (P.take k) q) ∧ Hid (L.length ≤ 2 + 2 * k) ∧ Hid (D.length ≤ 4 + 2 * k) ∧ Below w.heap.size w wr) (fun vi _ => n - (intOf vi).toNat)
 case atStart => exact ⟨0, v, E, L, D, rfl, Nat.zero_le _, S, hI', by simpa using hC', hL', hD', hw⟩
 case round =>
  clear S hI' hC' hL' hD' hw
  obtain ⟨k, v, E, L, D, rfl, hk, S, hI, hC, hL, hD, hw⟩ := hrel
  by_cases hlt : k < n
  case pos =>
   have hlk : k < P.length := hP.out ▸ hlt
   have HQ := Lib.hid (show P.take (k + 1) = P.take k ++ [P[k]] from List.take_succ_eq_append_getElem hlk)
   obtain ⟨ad, ea, hab0, hA0⟩ := h0.num hlk
   have hA := (h0.ee hw).num hlk
   obtain ⟨ad2, ea2, hab, hA⟩ := hA
   obtain rfl : ad = ad2 := by rw [ea] at ea2; exact Option.some.inj ea2
   clear hA0 ea2
   generalize P[k] = x at *
   go_wp2_with fail
   refine (csp x _).mono ?_
   rintro e w3 ⟨rfl, hb⟩
   replace S := S.ee hb
   replace hw := upB hw hb
   clear hb hA
   go_wp2_with fail
   have hNn := HN.out
   have hSs := HS.out
   have hSs2 := HS2.out
   have hLk : L.length ≤ 2 + 2 * k := hL.out
   have hDk : D.length ≤ 4 + 2 * k := hD.out
   refine (rcadd_any cb mb b db v s s hSs hSs (by omega) (by omega) E L D hI.out (by omega) (by omega) (spt s x) _ S).mono ?_
   rintro e w4 ⟨r, v', E', L', D', rfl, S', hI2, hr, hC2, hL2, hD2, hf⟩
   have hw4 : Below w.heap.size w w4 := hw.trans (hf.below (fun j hj => by have := hb1.out; have := hb2.out; rcases hj with rfl | rfl <;> omega) hw.size)
   have hC3 := Lib.hid (show ∀ q, someC L' q ↔ PutPt s (P.take (k + 1)) q from fun q => by
    rw [hC2 q, hC.out q, HQ.out]
    have hin : inBox s s (spt s x) := zI8 hSs x
    unfold PutPt
    constructor
    ·rintro ((h | ⟨y, h1, h2⟩) | ⟨h, _⟩)
     ·exact .inl h
     ·exact .inr ⟨y, List.mem_append_left _ h1, h2⟩
     ·exact .inr ⟨x, by simp, h⟩
    ·rintro (h | ⟨y, h1, h2⟩)
     ·exact .inl (.inl h)
     ·rcases List.mem_append.1 h1 with h1 | h1
      ·exact .inl (.inr ⟨y, h1, h2⟩)
      ·rw [List.mem_singleton] at h1
       rw [h1] at h2
       exact .inr ⟨h2, hin⟩)
   have hL3 := Lib.hid (show L'.length ≤ 2 + 2 * (k + 1) by omega)
   have hD3 := Lib.hid (show D'.length ≤ 4 + 2 * (k + 1) by omega)
   have hI3 := Lib.hid hI2
   clear hC2 hL2 hD2 hf hr hLk hDk hI2 S hw hSs hSs2
   go_wp2_with fail
   rw [← ea]
   go_roundw
   case rel => exact ⟨k + 1, v', E', L', D', by go_num, by omega, S', hI3, hC3, hL3, hD3, hw4⟩
   case measure => simp [intOf]; omega
  case neg =>
   obtain rfl : k = n := by omega
   have HC := Lib.hid (show ∀ q, someC L q ↔ PutPt s P q from fun q => by rw [hC.out q, List.take_of_length_le (by rw [hP.out]; omega)])
   clear hC hlt hk
   have hG := hI.out.good
   have hLk := hL.out
   have hNn := HN.out
   have hE : E.length ≤ 1000000 := by rw [hG.len]; omega
   have ht := fun W B H => rtris_cap mb b E hE W B H
   have hp0 : (srt cmpT (heads (fun _ => true) E)).Perm L := (zAn _).trans hG.heads
   have HRS := Lib.hid (show srt cmpT (srt cmpT (heads (fun _ => true) E)) = srt cmpT (heads (fun _ => true) E) from wholeT.srt_of_perm (zAn _))
   generalize srt cmpT (heads (fun _ => true) E) = I at *
   obtain ⟨m, hm⟩ : ∃ m, I.length = m := ⟨_, rfl⟩
   rw [hm] at ht
   have HM := Lib.hid hm
   have hm1 : m ≤ 1000000 := by rw [← hm, hp0.length_eq]; omega
   have HM1 := Lib.hid (show m ≤ 100 by rw [← hm, hp0.length_eq]; omega)
   have hv : ∀ T ∈ I, valT T = true := fun T h => hG.val T (hp0.mem_iff.1 h)
   have hgo := Good.puts (I := I) (E := []) (M := []) ⟨by simp, by simp [KeysNodup], by simp⟩ hv (by
    rw [List.append_nil]
    exact ((hp0.flatMap_right ways).nodup_iff).2 hG.once)
   rw [List.append_nil, hm] at hgo
   obtain ⟨hg1, hg2⟩ := hgo
   have HG := Lib.hid (show Good (putRun [] I).2 I from hg2)
   have HV := Lib.hid hv
   have HP0 := Lib.hid hp0
   have hn2 := fun a cap W H => mnew_1 a cap m I (Lib.hid hm) hm1 (fun T h => zC6 (hv T h)) hg1 W H
   generalize (putRun [] I).2 = E2 at *
   clear hg1 hg2 hv hp0 hm1 hE hG hLk hm hNn
   have Fs := S.box.facts
   go_wp2_with fail
   clear Fs
   refine (ht _ S.mesh S.map).mono ?_
   rintro e w5 ⟨a5, c5, rfl, hc5', hr5, hb⟩
   replace S := S.ee hb
   have hw5 := (upB hw hb)
   clear hb ht hw
   go_wp2_with fail
   refine (hn2 _ _ _ hr5).mono ?_
   rintro e w6 ⟨m2, b2, rfl, B2, H2, h1, h2, hb⟩
   have S6 := S.ee hb
   have hr6 := hr5.ee hb
   have hw6 := (upB hw5 hb)
   have HT := Lib.hid hI.out.fix.tiles
   have HB2 := Lib.hid (show w.heap.size ≤ b2 from Nat.le_trans hw5.size h1)
   clear hb hn2 hr5 h1 h2 hw5 S
   have hNl : 2 ≤ I.length := by
    rw [HP0.out.length_eq]
    exact two_least HS.out (fun q h => (HC.out q).2 (.inl h))
   rw [HM.out] at hNl
   have hml := HM1.out
   have hc5 : m ≤ c5 := HM.out ▸ hc5'
   obtain ⟨kk, ek, lk⟩ : ∃ i : Nat, at' % m = i ∧ i < m := ⟨(at' % m).toNat, by have := Int.emod_nonneg at' (b := (m : Int)) (by omega); omega, by have := Int.emod_lt_of_pos at' (b := (m : Int)) (by omega); have := Int.emod_nonneg at' (b := (m : Int)) (by omega); omega⟩
   have cr := fun W => zJb (i := at') (n := m) (by omega) (by omega) W
   rw [ek] at cr
   obtain ⟨k2, e2, l2, n2⟩ : ∃ j : Nat, (kk + 1) % m = j ∧ j < m ∧ j ≠ kk := ⟨_, rfl, Nat.mod_lt _ (by omega), by
    rcases Nat.lt_or_ge (kk + 1) m with h | h
    ·rw [Nat.mod_eq_of_lt h]; omega
    ·rw [show kk + 1 = m by omega, Nat.mod_self]; omega⟩
   have hk1 : kk < I.length := by rw [HM.out]; exact lk
   have hk2 : k2 < I.length := by rw [HM.out]; exact l2
   have hnd : I.Nodup := zDl HG.out.once
   have HNE := Lib.hid (show I[k2] ≠ I[kk] from fun e => n2 ((List.getElem_inj hnd).1 e))
   have HT1 := Lib.hid (List.getElem_mem hk1)
   have HT2 := Lib.hid (List.getElem_mem hk2)
   obtain ⟨ad, A, ea, eA, hA⟩ := hr6.six hk1
   obtain ⟨ad', A2, ea', eA2, hA2⟩ := hr6.six hk2
   obtain rfl : ad = ad' := by rw [ea] at ea'; exact Option.some.inj ea'
   have hp1 := hr6.partW kk 1 c5 (by rw [HM.out]; exact hc5')
   rw [if_neg (by omega), ea, Option.map_some, eA, List.drop_eq_getElem_cons hk1, List.take_succ_cons, List.take_zero] at hp1
   have s1 : ∀ w, (Instr.slice 32 (.slice (some ad) m c5) (some (.int .i64 kk)) (some (.int .i64 ((kk + 1 : Nat) : Int))) none).run Tryz.prog w = .ok (.slice (some A) 1 (c5 - kk)) w := fun w => by
    have := zCw (some ad) m c5 kk (kk + 1) (by omega) (by omega) w
    rw [if_neg (by omega), Option.map_some, eA, show kk + 1 - kk = 1 by omega] at this
    exact this
   have HCLS := Lib.hid (show ∀ w, RowAt cT 6 w (some ad) I → Six w A I[kk] ∧ Six w A2 I[k2] from fun w h => by
    obtain ⟨x, X, ex, eX, hX⟩ := h.six hk1
    obtain ⟨y, Y, ey, eY, hY⟩ := h.six hk2
    cases ex
    cases ey
    rw [← eA, ← eA2, eX, eY]
    exact ⟨hX, hY⟩)
   have HOKI := Lib.hid (show ∀ T ∈ I, okT T from fun T h => zC6 (HV.out T h))
   generalize I[kk] = T at *
   generalize I[k2] = S at *
   subst ea
   have ew : wrap64 ((kk : Int) + 1) = ((kk + 1 : Nat) : Int) := mr_s hml lk
   have HK := Lib.hid (show kk < m from lk)
   have hokTT := Lib.hid (show ∀ X ∈ [T, T], okT X from fun X hX => by
    simp only [List.mem_cons, List.not_mem_nil, or_false, or_self] at hX
    rw [hX]; exact HOKI.out T HT1.out)
   have HE := Lib.hid e2
   clear ea' hk1 hk2 hnd ek n2 e2
   go_wp2_with fail
   refine (cr _).mono ?_
   rintro e w7 ⟨rfl, hb7⟩
   replace B2 := B2.ee hb7
   replace H2 := H2.ee hb7
   replace hr6 := hr6.ee hb7
   replace hp1 := hp1.ee hb7
   replace hA := hA.ee hb7
   replace hA2 := hA2.ee hb7
   replace hw6 := upB hw6 hb7
   clear hb7 cr S6
   have cq := csp pn
   have hinq := Lib.hid (zI8 HS.out pn)
   generalize spt s pn = q at cq hinq
   have ct := fun W => zIb T q W
   have q1 : (kk : Int) < (m : Int) := Int.ofNat_lt.2 HK.out
   have q2 : (0 : Int) ≤ (kk : Int) := Int.natCast_nonneg kk
   clear csp
   go_wp2_with fail
   obtain ⟨s0, t1, t2, t3, t4, t5⟩ := hA.cells
   refine wp_region_tail 7 (by kernel_rfl) (by kernel_rfl) (C := fun w' => ∃ p : Regrown, w' = grow (redrawn w7 p.d) p.os) rgB ?_
   simp only [tK1, tK0, dP1, dP0]
   repeat (first | (refine zA0 (Eq.refl false) ?_; simp only [Act.put, sT2, sT1, sT0]) | (refine rWalk_step (fun K hK => ?_); go_simp; first | (refine hK _ ?_; clear hK K) | (apply Exists.intro; refine ⟨fun _ => ?_, hK _ ?_⟩; (first | with_reducible exact toExt cq _); clear hK K)))
   refine rWalk_nil ?_
   intro w8 hb8
   clear s0 t1 t2 t3 t4 t5
   go_wp2_with fail
   refine (ct _).mono ?_
   rintro e w9 ⟨a9, c9, rfl, hr9, hb9⟩
   have hb := (upB hb8 hb9)
   replace B2 := B2.ee hb
   replace H2 := H2.ee hb
   replace hr6 := hr6.ee hb
   replace hp1 := hp1.ee hb
   replace hA := hA.ee hb
   replace hA2 := hA2.ee hb
   replace hw6 := upB hw6 hb
   have HQ := Lib.hid (show (srt cmpT (cutR T q)).Perm (cutR T q) from zAn _)
   generalize srt cmpT (cutR T q) = Q at *
   obtain ⟨n9, hn9⟩ : ∃ z, Q.length = z := ⟨_, rfl⟩
   rw [hn9]
   have HN9 := Lib.hid hn9
   clear hb hb8 hb9 hn9 ct cq
   have i1 : IntKind.i64.wrap ((kk : Int) + 1) = (kk : Int) + 1 := mr_i hml HK.out
   have hmod : Int.tmod ((kk : Int) + 1) (m : Int) = (k2 : Int) := by
    rw [Int.tmod_eq_emod_of_nonneg (by omega), ← HE.out, Int.natCast_emod]; rfl
   have q3 : (k2 : Int) < (m : Int) := Int.ofNat_lt.2 l2
   have q4 : (0 : Int) ≤ (k2 : Int) := Int.natCast_nonneg k2
   have hm0 : ((m : Int) == 0) = false := by simp; omega
   have hm00 : (m = 0) = False := by simp; omega
   go_wp2_with fail
   have hCl : ∀ x y, Ext x y → (Six x A T ∧ Six x A2 S) → (Six y A T ∧ Six y A2 S) := fun x y h1 h2 => ⟨h2.1.ee h1, h2.2.ee h1⟩
   refine FT.wp_region_flowC 33 (.run 0 (.run 1 (.run 2 (.run 3 (.run 4 (.run 5 (.run 6 (.run 7 (.run 8 (.run 9 (.alt 10 (.alt 11 (.run 12 (.run 13 (.run 14 (.run 15 (.run 16 (.run 17 (.run 18 (.run 19 (.run 20 (.run 21 (.run 22 (.alt 23 (.alt 24 (.run 25 (.run 26 (.run 27 (.run 28 (.run 30 (.alt 29 (.alt 31 (.run 32 (.tail)) .stop) .stop)))))) .stop) .stop)))))))))))) .stop) .stop))))))))))) rfl (by kernel_rfl) (fun _ x _ _ _ h => by cases x <;> exact h) (C := fun w' => Six w' A T ∧ Six w' A2 S) (fun _ h => ⟨hA.ee h, hA2.ee h⟩) hCl ?_
   iterate 9 (refine FT.flow_run rfl (fun K hK => ?_); go_simp; first | (refine hK _ ?_; clear hK K) | (refine ⟨_, fun _ _ _ => rfl, hK _ ?_⟩; clear hK K))
   refine FT.flow_run rfl (fun K hK => ?_)
   go_simp
   refine ⟨.agg #[.int .i64 S.A.x, .int .i64 S.A.y, .int .i64 S.B.x, .int .i64 S.B.y, .int .i64 S.C.x, .int .i64 S.C.y], fun wq hwq1 hwq2 => ?_, hK _ ?_⟩
   ·obtain ⟨y0, y1, y2, y3, y4, y5, y6⟩ := hwq2.facts
    go_simp
   clear hK K
   refine FT.flow_at hCl rfl trivial (fun wa hwa K hK => ?_)
   go_simp
   have hba := hwa.alloc hwa.size (.cells #[.int .i64 S.A.x, .int .i64 S.A.y, .int .i64 S.B.x, .int .i64 S.B.y, .int .i64 S.C.x, .int .i64 S.C.y] 38)
   obtain ⟨bz, hbz⟩ : ∃ b, wa.heap.size = b := ⟨_, rfl⟩
   have BZ : Box (wa.alloc (.cells #[.int .i64 S.A.x, .int .i64 S.A.y, .int .i64 S.B.x, .int .i64 S.B.y, .int .i64 S.C.x, .int .i64 S.C.y] 38)) bz (cT S) 38 := by rw [← hbz]; exact Box.new rfl
   refine hK _ _ ⟨hA.ee hba, hA2.ee hba⟩ ?_
   clear hK K
   rw [hbz]
   generalize wa.alloc (.cells #[.int .i64 S.A.x, .int .i64 S.A.y, .int .i64 S.B.x, .int .i64 S.B.y, .int .i64 S.C.x, .int .i64 S.C.y] 38) = wb at *
   replace B2 := B2.ee hba
   replace H2 := H2.ee hba
   replace hr6 := hr6.ee hba
   replace hp1 := hp1.ee hba
   replace hr9 := hr9.ee hba
   replace hA := hA.ee hba
   replace hA2 := hA2.ee hba
   replace hw6 := upB hw6 hba
   clear hba hwa hbz
   refine FT.flow_at hCl rfl trivial (fun wc hwc K hK => ?_)
   go_simp
   refine (zEl m2 b2 E2 I HG.out (some A) (some ⟨bz, 0, none⟩) (c5 - kk) 1 1 1 [T] [S] rfl (by omega) (by decide) (fun X hX => by rw [List.mem_singleton] at hX; rw [hX]; exact HOKI.out T HT1.out) rfl (by decide) (by decide) (fun X hX => by rw [List.mem_singleton] at hX; rw [hX]; exact HOKI.out S HT2.out) wc (B2.ee hwc) (H2.ee hwc) (hp1.ee hwc) (zBg (by simpa using BZ.ee hwc))).mono ?_
   rintro e wd ⟨r, E3, L3, rfl, hg, H3, G3, R3⟩
   obtain ⟨rfl, p3⟩ := repl_there HG.out HT1.out HT2.out HNE.out G3 R3
   clear hA hA2 BZ R3
   have h2c := H2.ee hwc
   replace B2 := (B2.ee hwc).turn h2c hg
   replace hr6 := (hr6.ee hwc).turn cT_ne h2c hg
   replace hp1 := (hp1.ee hwc).turn cT_ne h2c hg
   replace hr9 := (hr9.ee hwc).turn cT_ne h2c hg
   replace hw6 := zB9 ((upB hw6 hwc)) hg ((upB hw6 hwc)).size HB2.out
   obtain ⟨hA, hA2⟩ := HCLS.out _ hr6
   clear h2c hwc hg H2
   have HG3 := Lib.hid (G3.order p3)
   clear G3 p3
   go_simp
   refine hK _ _ ⟨hA, hA2⟩ ?_
   clear hK K
   iterate 6 (refine FT.flow_run rfl (fun K hK => ?_); go_simp; first | (refine hK _ ?_; clear hK K) | (refine ⟨_, fun _ _ _ => rfl, hK _ ?_⟩; clear hK K))
   refine FT.flow_run rfl (fun K hK => ?_)
   go_simp
   refine ⟨.agg #[.int .i64 T.A.x, .int .i64 T.A.y, .int .i64 T.B.x, .int .i64 T.B.y, .int .i64 T.C.x, .int .i64 T.C.y], fun wq hwq1 hwq2 => ?_, hK _ ?_⟩
   ·obtain ⟨y0, y1, y2, y3, y4, y5, y6⟩ := hwq1.facts
    go_simp
   clear hK K
   iterate 3 (refine FT.flow_run rfl (fun K hK => ?_); go_simp; first | (refine hK _ ?_; clear hK K) | (refine ⟨_, fun _ _ _ => rfl, hK _ ?_⟩; clear hK K))
   refine FT.flow_run rfl (fun K hK => ?_)
   go_simp
   refine ⟨.agg #[.int .i64 T.A.x, .int .i64 T.A.y, .int .i64 T.B.x, .int .i64 T.B.y, .int .i64 T.C.x, .int .i64 T.C.y], fun wq hwq1 hwq2 => ?_, hK _ ?_⟩
   ·obtain ⟨y0, y1, y2, y3, y4, y5, y6⟩ := hwq1.facts
    go_simp
   clear hK K
   refine FT.flow_at hCl rfl trivial (fun wa hwa K hK => ?_)
   go_simp
   have hba := hwa.alloc hwa.size (.cells #[.int .i64 T.A.x, .int .i64 T.A.y, .int .i64 T.B.x, .int .i64 T.B.y, .int .i64 T.C.x, .int .i64 T.C.y, .int .i64 T.A.x, .int .i64 T.A.y, .int .i64 T.B.x, .int .i64 T.B.y, .int .i64 T.C.x, .int .i64 T.C.y] 38)
   obtain ⟨by', hby⟩ : ∃ b, wa.heap.size = b := ⟨_, rfl⟩
   have BY : Box (wa.alloc (.cells #[.int .i64 T.A.x, .int .i64 T.A.y, .int .i64 T.B.x, .int .i64 T.B.y, .int .i64 T.C.x, .int .i64 T.C.y, .int .i64 T.A.x, .int .i64 T.A.y, .int .i64 T.B.x, .int .i64 T.B.y, .int .i64 T.C.x, .int .i64 T.C.y] 38)) by' (cT T ++ cT T) 38 := by rw [← hby]; exact Box.new rfl
   refine hK _ _ ⟨hA.ee hba, hA2.ee hba⟩ ?_
   clear hK K
   rw [hby]
   generalize wa.alloc (.cells #[.int .i64 T.A.x, .int .i64 T.A.y, .int .i64 T.B.x, .int .i64 T.B.y, .int .i64 T.C.x, .int .i64 T.C.y, .int .i64 T.A.x, .int .i64 T.A.y, .int .i64 T.B.x, .int .i64 T.B.y, .int .i64 T.C.x, .int .i64 T.C.y] 38) = wb at *
   clear hA hA2
   replace B2 := B2.ee hba
   replace H3 := H3.ee hba
   replace hr6 := hr6.ee hba
   replace hp1 := hp1.ee hba
   replace hr9 := hr9.ee hba
   replace hw6 := upB hw6 hba
   obtain ⟨hA, hA2⟩ := HCLS.out _ hr6
   clear hba
   clear hwa hby
   refine FT.flow_at hCl rfl trivial (fun wc hwc K hK => ?_)
   go_simp
   refine (zEl m2 b2 E3 I HG3.out (some ⟨by', 0, none⟩) none 2 0 2 0 [T, T] [] rfl (by decide) (by decide) hokTT.out rfl (by decide) (by decide) (fun X hX => by cases hX) wc (B2.ee hwc) (H3.ee hwc) (zBg (by simpa using BY.ee hwc)) RowAt.nil).mono ?_
   rintro e wd ⟨r, E4, L4, rfl, hg, H4, G4, R4⟩
   obtain ⟨rfl, p4⟩ := repl_twice HG3.out HT1.out R4
   clear hA hA2 BY R4
   have h2c := H3.ee hwc
   replace B2 := (B2.ee hwc).turn h2c hg
   replace hr6 := (hr6.ee hwc).turn cT_ne h2c hg
   replace hp1 := (hp1.ee hwc).turn cT_ne h2c hg
   replace hr9 := (hr9.ee hwc).turn cT_ne h2c hg
   replace hw6 := zB9 ((upB hw6 hwc)) hg ((upB hw6 hwc)).size HB2.out
   obtain ⟨hA, hA2⟩ := HCLS.out _ hr6
   clear h2c hwc hg H3
   have HG4 := Lib.hid (G4.order p4)
   clear G4 p4
   go_simp
   refine hK _ _ ⟨hA, hA2⟩ ?_
   clear hK K
   iterate 5 (refine FT.flow_run rfl (fun K hK => ?_); go_simp; first | (refine hK _ ?_; clear hK K) | (refine ⟨_, fun _ _ _ => rfl, hK _ ?_⟩; clear hK K))
   have hE4 : E4.length ≤ 1000000 := by rw [HG4.out.len, HM.out]; have := HM1.out; omega
   refine FT.flow_at hCl rfl trivial (fun wc hwc K hK => ?_)
   go_simp
   have hsort := wholeT.srt_of_perm (HG4.out.heads)
   have ct4 := zFs m2 b2 E4 hE4 wc (B2.ee hwc) (H4.ee hwc)
   rw [show srt cmpT (heads (fun _ => true) E4) = I from hsort.trans HRS.out, HM.out] at ct4
   refine ct4.mono ?_
   rintro e wd ⟨aT, cT', rfl, hrT, hbT⟩
   have hbb := Below.trans hwc (hbT.mono (Below.size hwc))
   have hbT0 := Below.refl wd.heap.size wd
   clear hA hA2 hwc hbT ct4 hsort hE4
   replace B2 := B2.ee hbb
   replace H4 := H4.ee hbb
   replace hr6 := hr6.ee hbb
   replace hp1 := hp1.ee hbb
   replace hr9 := hr9.ee hbb
   replace hw6 := upB hw6 hbb
   obtain ⟨hA, hA2⟩ := HCLS.out _ hr6
   clear hbb
   go_simp
   refine hK _ _ ⟨hA, hA2⟩ ?_
   clear hK K
   refine FT.flow_at hCl rfl trivial (fun wc hwc K hK => ?_)
   go_simp
   have ca := zJq aT (some ad) cT' c5 I I wc (hrT.ext (Below.trans hbT0 hwc) rfl) (hr6.ee hwc) (by rw [HM.out]; have := HM1.out; omega)
   rw [decide_eq_true rfl, HM.out] at ca
   refine ca.mono ?_
   rintro e wd ⟨rfl, hbT⟩
   have hbb := Below.trans hwc (hbT.mono (Below.size hwc))
   clear hwc hbT ca hrT
   go_simp
   refine hK _ _ ⟨hA.ee hbb, hA2.ee hbb⟩ ?_
   clear hK K hA hA2
   replace B2 := B2.ee hbb
   replace H4 := H4.ee hbb
   replace hr6 := hr6.ee hbb
   replace hp1 := hp1.ee hbb
   replace hr9 := hr9.ee hbb
   replace hw6 := upB hw6 hbb
   clear hbb
   iterate 1 (refine FT.flow_run rfl (fun K hK => ?_); go_simp; first | (refine hK _ ?_; clear hK K) | (refine ⟨_, fun _ _ _ => rfl, hK _ ?_⟩; clear hK K))
   intro wz hwz
   have hbz := hwz
   simp only [dP1, dP0]
   clear hwz hCl
   replace B2 := B2.ee hbz
   replace H4 := H4.ee hbz
   replace hr6 := hr6.ee hbz
   replace hp1 := hp1.ee hbz
   replace hr9 := hr9.ee hbz
   replace hw6 := upB hw6 hbz
   obtain ⟨hA, hA2⟩ := HCLS.out _ hr6
   clear hbz
   obtain ⟨r1, r2, rv, M, pM, nT, G5, r3, r4, G6⟩ := cut_runs HG4.out (HT.out.perm HP0.out.symm) HS.out HS.out (by have := HS2.out; omega) (by have := HS2.out; omega) HT1.out hinq.out HQ.out
   have hn93 : n9 ≤ 3 := by rw [← HN9.out, HQ.out.length_eq]; exact cutR_len T q
   have hok1 : ∀ X ∈ [T], okT X := fun X hX => hokTT.out X (by simp at hX; simp [hX])
   have hokQ : ∀ X ∈ Q, okT X := fun X hX => zC6 (rv X hX)
   rw [HN9.out] at r2 r3
   have ro1 := fun W B H R1 R2 => zDc m2 b2 E4 (some A) a9 (c5 - kk) c9 1 n9 [T] Q (Lib.hid rfl) (by decide) hok1 HN9 (by omega) hokQ r1 r2 W B H R1 R2
   generalize (putRun (takeRun E4 [T]).2 Q).2 = E5 at *
   have ro2 := fun W B H R1 R2 => zDc m2 b2 E5 a9 (some A) c9 (c5 - kk) n9 1 Q [T] HN9 (by omega) hokQ (Lib.hid rfl) (by decide) hok1 r3 r4 W B H R1 R2
   generalize (putRun (takeRun E5 Q).2 [T]).2 = E6 at *
   obtain ⟨ml, hml2⟩ : ∃ l, M.length = l := ⟨_, rfl⟩
   have hmm : ml + 1 = m := by rw [← hml2, ← HM.out, pM.length_eq]; simp
   have HE5 := Lib.hid (show E5.length = 3 * (n9 + ml) by rw [G5.len, List.length_append, HN9.out, hml2])
   have hE6 : E6.length ≤ 1000000 := by rw [G6.len, HM.out]; omega
   have hasT : hasE E5 T = false := by rw [← Bool.not_eq_true]; exact fun e => nT (G5.has.1 e)
   have hasQ := Lib.hid (show ∀ U ∈ Q, hasE E5 U = true from fun U hU => G5.has.2 (List.mem_append_left _ hU))
   have cl := fun W B H => zIh m2 b2 E5 (n9 + ml) HE5 (by omega) W B H
   have ch := fun W B H => zD1 m2 b2 E5 T (HOKI.out T HT1.out) W B H
   rw [hasT] at ch
   have w1e : wrap64 ((m : Int) - 1) = (ml : Int) := mr_w1 hmm hml
   have w3e : wrap64 ((ml : Int) + (n9 : Int)) = (n9 : Int) + (ml : Int) := mr_w3 hmm hml hn93
   have w2e : wrap64 ((m : Int) - 1 + (n9 : Int)) = (n9 : Int) + (ml : Int) := mr_w2 hmm hml hn93
   have HG6 := Lib.hid G6
   have HQok := Lib.hid hokQ
   clear r1 r2 r3 r4 rv pM nT G5 G6 hml2 hasT hokQ hok1 hmm
   go_wp2_with fail
   refine (ro1 wz B2 H4 hp1 hr9).mono ?_
   rintro e wy ⟨rfl, hg, H5⟩
   replace B2 := B2.turn H4 hg
   replace hr6 := hr6.turn cT_ne H4 hg
   replace hp1 := hp1.turn cT_ne H4 hg
   replace hr9 := hr9.turn cT_ne H4 hg
   replace hw6 := zB9 hw6 hg hw6.size HB2.out
   clear hg H4
   obtain ⟨hA, hA2⟩ := HCLS.out _ hr6
   go_wp2_with fail
   refine (cl wy B2 H5).mono ?_
   rintro e wx ⟨rfl, hb⟩
   clear hA hA2
   replace B2 := B2.ee hb
   replace H5 := H5.ee hb
   replace hr6 := hr6.ee hb
   replace hp1 := hp1.ee hb
   replace hr9 := hr9.ee hb
   replace hw6 := upB hw6 hb
   clear hb
   obtain ⟨hA, hA2⟩ := HCLS.out _ hr6
   obtain ⟨s0, t0, t1, t2, t3, t4, t5⟩ := hA.facts
   go_wp2_with fail
   refine (ch wx B2 H5).mono ?_
   rintro e wv ⟨rfl, hb⟩
   clear hA hA2 s0 t0 t1 t2 t3 t4 t5 ch cl w1e w2e w3e
   replace B2 := B2.ee hb
   replace H5 := H5.ee hb
   replace hr6 := hr6.ee hb
   replace hp1 := hp1.ee hb
   replace hr9 := hr9.ee hb
   replace hw6 := upB hw6 hb
   clear hb
   go_wp2_with fail
   go_loopw [17] (fun vi wr => ∃ j : Nat, j ≤ n9 ∧ vi = .int .i64 j ∧ Below wv.heap.size wv wr) (fun vi _ => n9 - (intOf vi).toNat)
   case atStart => exact ⟨0, Nat.zero_le _, rfl, Below.refl _ _⟩
   case round =>
    obtain ⟨j, hj, rfl, hwr⟩ := hrel
    have B3 := B2.ee hwr
    have H5' := H5.ee hwr
    by_cases hjn : j < n9
    case pos =>
     have hjl : j < Q.length := by rw [HN9.out]; exact hjn
     obtain ⟨adq, X, eq', eX, hX0⟩ := hr9.six hjl
     have hX := hX0.ee hwr
     have hU := hasQ.out _ (List.getElem_mem hjl)
     have hokU := HQok.out _ (List.getElem_mem hjl)
     generalize Q[j] = U at *
     subst eq'
     have chU := fun W B H => zD1 m2 b2 E5 U hokU W B H
     rw [hU] at chU
     have q5 : (j : Int) < (n9 : Int) := Int.ofNat_lt.2 hjn
     have q6 : (0 : Int) ≤ (j : Int) := Int.natCast_nonneg j
     clear hX0 hU hokU ro2 hA hA2
     obtain ⟨s0, t0, t1, t2, t3, t4, t5⟩ := hX.facts
     go_wp2_with fail
     refine (chU _ B3 H5').mono ?_
     rintro e wt ⟨rfl, hb⟩
     clear s0 t0 t1 t2 t3 t4 t5 chU
     go_wp2_with fail
     go_roundw
     case rel => exact ⟨j + 1, by omega, by go_num, (upB hwr hb)⟩
     case measure => simp [intOf]; omega
    case neg =>
     have hjn9 : j = n9 := by omega
     subst hjn9
     have hr6b := hr6.ee hwr
     have hp1b := hp1.ee hwr
     have hr9b := hr9.ee hwr
     have hw6b := (upB hw6 hwr)
     clear hj hjn hA hA2
     go_wp2_with fail
     refine (ro2 wr B3 H5' hr9b hp1b).mono ?_
     rintro e wy ⟨rfl, hg, H6⟩
     replace B3 := B3.turn H5' hg
     replace hr6b := hr6b.turn cT_ne H5' hg
     replace hw6b := zB9 hw6b hg hw6b.size HB2.out
     clear hp1b hr9b ro2 hg H5'
     go_wp2_with fail
     have hsort := wholeT.srt_of_perm (HG6.out.heads)
     have ct6 := zFs m2 b2 E6 hE6 wy B3 H6
     rw [show srt cmpT (heads (fun _ => true) E6) = I from hsort.trans HRS.out, HM.out] at ct6
     refine ct6.mono ?_
     rintro e wd ⟨aT, cT', rfl, hrT, hbT⟩
     replace hr6b := hr6b.ee hbT
     replace hw6b := upB hw6b hbT
     have ca := zJq aT (some ad) cT' c5 I I wd hrT hr6b (by rw [HM.out]; have := HM1.out; omega)
     rw [decide_eq_true rfl, HM.out] at ca
     clear hbT ct6 hsort hrT hr6b
     go_wp2_with fail
     refine ca.mono ?_
     rintro e we ⟨rfl, hb⟩
     replace hw6b := upB hw6b hb
     clear hb ca
     go_wp2_with fail
     refine (zHx _).mono ?_
     rintro e wf ⟨rfl, hb⟩
     have hwf := (upB hw6b hb)
     go_wp2
     go_ret
     exact ⟨rfl, hwf⟩
end Go.Proofs.YtmobnmjjmafibaaGreat
