/- Put together: MesL, TrN, TrR, SortQ. -/
import Derived.Test.YtaegobkkcgheeaaRows
import Derived.Test.YtaegobkkcgheeaaPut13
import Derived.Test.YtaegobkkcgheeaaPut24
import Derived.Test.YtaegobkkcgheeaaPut1
import Derived.WalkKit
import Derived.WalkSpells
import Derived.WalkLawsBesides
import Derived.Laws.Externs
import Derived.Deep.QuietTactic
import Derived.BigQuiet
import Derived.Lib.Hide
import Derived.Handy
import Derived.OwnWalk
import Derived.Maps.RangeWalk
import Derived.LoopN
import Derived.RegionTactic
import Derived.Test.YtaegobkkcgheeaaPut21
import Derived.Laws.AppendOwn
namespace Go.Proofs.Ytaegobkkcgheeaa
open Go.RowKit Go.Sort
attribute [local go_sem] rOper rAt rUpon cell_set sg_i64 sg_u64 alloc_cell alloc_frozen
attribute [local go_sem 10000] pt_eql pt_neq tri_eql
attribute [local irreducible] rWalk

def yes : Tri3 → Bool := fun _ => true
set_option maxRecDepth 100000 in
set_option maxHeartbeats 2000000 in
theorem rtris_any (mb b : Nat) (E : Es) (hE : E.length ≤ 1000000) (w : World) (Bm : Box w mb [.map (some b)] 69) (Hm : HoldsMap eW eT okW w b E) :
    Calls Try.prog 43 #[.pointer (some ⟨mb, 0, none⟩)] w fun e w' => ∃ a cap, e = .returned (.slice a (srt cmpT (heads (fun _ => true) E)).length cap) ∧ RowAt cT 6 w' a (srt cmpT (heads (fun _ => true) E)) ∧ Below w.heap.size w w' := by
  show Calls Try.prog 43 #[.pointer (some ⟨mb, 0, none⟩)] w fun e w' => ∃ a cap, e = .returned (.slice a (srt cmpT (heads yes E)).length cap) ∧ RowAt cT 6 w' a (srt cmpT (heads yes E)) ∧ Below w.heap.size w w'
  obtain ⟨xm, ym, zm, vm⟩ := Bm.facts
  go_enter Try.func43, Try.ntmps43
  go_wp2_with (at_range; refine wpList_mrange _ rfl _ rfl kvR rfl Hm ?_)
  intro w0 HR0 hw0 _
  clear xm ym zm vm
  go_wp2
  go_loopw [3] (fun v wr => ∃ D R : Es, Hid ((D ++ R).Perm E) ∧ wr.ownsRow w.heap.size 25 6 v (heads yes D).length ((heads yes D).flatMap cT) ∧ Ranging eW eT okW wr b w.heap.size E R ∧ Below w.heap.size w wr) (fun _ wr => wr.rangeLeft b w.heap.size)
  case atStart => exact ⟨[], E, Lib.hid (by simp), World.ownsRow_nil _ _ _ _, HR0, hw0⟩
  case round =>
    clear HR0 hw0
    obtain ⟨D, R, hD, hown, HR, hw⟩ := hrel
    go_wp2_with (at_next; refine wpList_mnext _ rfl _ rfl rfl HR ?_ ?_)
    · intro hR
      subst hR
      have hp0 : (heads yes D).Perm (heads yes E) := heads_perm (by simpa using hD.out)
      have hle : (heads yes D).length ≤ 1000000 := by have := hp0.length_eq; have := heads_len yes E; omega
      have HS := Lib.hid (wholeT.srt_of_perm hp0)
      obtain ⟨a1, c1, rfl, hc1, hr1⟩ := rowAt_of_owns2 cT_len hown
      have hlen := Lib.hid (show (heads yes D).length = (srt cmpT (heads yes E)).length by rw [← HS.out]; exact (srt_perm _).length_eq.symm)
      go_wp2_with fail
      refine (rsortT_any _ _ _ _ (Lib.hid rfl) hle hc1 _ hr1).mono ?_
      rintro e w2 ⟨a, cap, rfl, hr, hb⟩
      go_wp2
      go_ret
      rw [HS.out] at hr
      exact ⟨a, cap, by rw [hlen.out]; rfl, hr, hw.trans (hb.mono hw.size)⟩
    · intro u x T R' w1 hperm HR1 hg1 hs1 hen
      have hD2 := Lib.hid (show ((D ++ [((u, x), T)]) ++ R').Perm E by have := (hperm.append_left D).symm.trans hD.out; simpa using this)
      have own1 := hown.kept hg1 (.inr (fun e => own_ne_iter hown HR e.symm))
      have hw1 := hw.grown hg1 hw.size (fun k hk => by cases hk; exact Nat.le_refl _)
      have HL := Lib.hid (show w1.rangeLeft b w.heap.size < wr.rangeLeft b w.heap.size by rw [left_is HR1, left_is HR, hperm.length_eq]; simp)
      have hen2 : (Instr.entry (.pointer (some ⟨w.heap.size, 0, none⟩))).run Try.prog w1 = .ok (.tuple #[.agg #[.int .i64 u.x, .int .i64 u.y, .int .i64 x.x, .int .i64 x.y], .agg #[.int .i64 T.A.x, .int .i64 T.A.y, .int .i64 T.B.x, .int .i64 T.B.y, .int .i64 T.C.x, .int .i64 T.C.y]]) w1 := hen
      have hle : (heads yes D).length ≤ 1000000 := by have := hD2.out.length_eq; have := heads_len yes D; simp at *; omega
      clear hown HR hg1 hs1 hen hperm hw
      have hnx : Hid (∀ W : World, Below w1.heap.size w1 W → (W.rangeLeft b w.heap.size < wr.rangeLeft b w.heap.size)) := Lib.hid (fun W hW => by
        rw [left_is (HR1.ext hW rfl), ← left_is HR1]; exact HL.out)
      by_cases hA : u = T.A
      · have hd : peqI u.x u.y T.A.x T.A.y = true := peqI_pt.2 hA
        have HH := Lib.hid (show heads yes (D ++ [((u, x), T)]) = heads yes D ++ [T] by rw [heads_append, heads_yes hA rfl])
        have HB := Lib.hid hw1.size
        have hb3 : Below w1.heap.size w1 ((w1.alloc (.cells #[.int .i64 u.x, .int .i64 u.y, .int .i64 x.x, .int .i64 x.y] 75)).alloc (.cells (cT T).toArray 25)) := by go_grown
        have own3 := (own1.alloc (.cells #[.int .i64 u.x, .int .i64 u.y, .int .i64 x.x, .int .i64 x.y] 75)).alloc (.cells (cT T).toArray 25)
        have HO3 := Lib.hid own3
        clear hA
        go_wp2_with (at_builtin; refine append_tri rfl _ _ rfl w.heap.size _ (heads yes D) rfl (own3.alloc _) (w1.heap.size + 1 + 1) T rfl (Box.new (by simp)) hle (by have := HB.out; simp; omega) ?_; intro w4 v4 hown4 hg4)
        have hR3 := (HR1.ext hb3 rfl).kept (World.grownBy_alloc _ (.cells (cT T).toArray 25) none) (by simp) (by simp)
        have hR4 := hR3.kept hg4 (own_ne_map (own3.alloc _) hR3.holds) (own_ne_iter (own3.alloc _) hR3)
        have hw4 := (((hw1.trans (hb3.mono hw1.size)).alloc (by have := HB.out; simp; omega) (.cells (cT T).toArray 25))).grown hg4 (by have := HB.out; simp; omega) (fun k hk => ((own3.alloc (.cells (cT T).toArray 25)).lt k hk).1)
        go_roundw
        case rel => exact ⟨D ++ [((u, x), T)], R', hD2, by rw [HH.out]; exact hown4, hR4, hw4⟩
        case measure => rw [left_is hR4, ← left_is HR1]; exact HL.out
      · have hd : peqI u.x u.y T.A.x T.A.y = false := by rw [← Bool.not_eq_true, peqI_pt]; exact hA
        have HH := Lib.hid (show heads yes (D ++ [((u, x), T)]) = heads yes D by rw [heads_append, heads_no (by simp [hA])]; simp)
        clear hA
        go_wp2
        go_roundw
        case rel => exact ⟨D ++ [((u, x), T)], R', hD2, by rw [HH.out]; exact (own1.alloc _).alloc _, HR1.ext (by go_grown) rfl, by have := hw1.size; go_grown⟩
        case measure => exact hnx.out _ (by go_grown)
end Go.Proofs.Ytaegobkkcgheeaa

namespace Go.Proofs.Ytaegobkkcgheeaa
open Go.RowKit
def InsFin (M : Tri3) (a b c p : Pt) : Prop :=
  (insP M p = true ∧ hasP M p = true ∧ (cntN M p 3 == 3) = true ∧ (cntS M p 3 == 2) = false ∧ (cntS M p 3 == 0) = true ∧ peqI p.x p.y a.x a.y = false ∧ peqI p.x p.y b.x b.y = false ∧ peqI p.x p.y c.x c.y = false) ∨
  (insP M p = false ∧ hasP M p = true ∧ (cntN M p 3 == 3) = false ∧ decide (0 < cntS M p 3) = true ∧ (cntS M p 3 == 2) = true ∧ peqI p.x p.y a.x a.y = true) ∨
  (insP M p = false ∧ hasP M p = true ∧ (cntN M p 3 == 3) = false ∧ decide (0 < cntS M p 3) = true ∧ (cntS M p 3 == 2) = true ∧ peqI p.x p.y a.x a.y = false ∧ peqI p.x p.y b.x b.y = true) ∨
  (insP M p = false ∧ hasP M p = true ∧ (cntN M p 3 == 3) = false ∧ decide (0 < cntS M p 3) = true ∧ (cntS M p 3 == 2) = true ∧ peqI p.x p.y a.x a.y = false ∧ peqI p.x p.y b.x b.y = false ∧ peqI p.x p.y c.x c.y = true) ∨
  (insP M p = false ∧ hasP M p = true ∧ (cntN M p 3 == 3) = false ∧ decide (0 < cntS M p 3) = true ∧ (cntS M p 3 == 2) = false ∧ peqI p.x p.y a.x a.y = false ∧ peqI p.x p.y b.x b.y = false ∧ peqI p.x p.y c.x c.y = false) ∨
  (insP M p = false ∧ hasP M p = false ∧ (cntN M p 3 == 3) = false ∧ decide (0 < cntS M p 3) = false ∧ (cntS M p 3 == 2) = false ∧ peqI p.x p.y a.x a.y = false ∧ peqI p.x p.y b.x b.y = false ∧ peqI p.x p.y c.x c.y = false)
theorem insP_iff {M : Tri3} {p : Pt} (hM : valT M = true) (vp : vld p = true) : insP M p = true ↔ 0 < det M.A M.B p ∧ 0 < det M.B M.C p ∧ 0 < det M.C M.A p := by
  obtain ⟨va, vb, vc, hD⟩ := tri_signs hM
  unfold insP
  rw [hM, Bool.true_and]
  simp only [Bool.and_eq_true, decide_eq_true_eq, (ori_sg va vb vp).1, (ori_sg vb vc vp).1, (ori_sg vc va vp).1]
theorem hasP_iff {M : Tri3} {p : Pt} (hM : valT M = true) (vp : vld p = true) : hasP M p = true ↔ 0 ≤ det M.A M.B p ∧ 0 ≤ det M.B M.C p ∧ 0 ≤ det M.C M.A p := by
  obtain ⟨va, vb, vc, hD⟩ := tri_signs hM
  unfold hasP
  rw [hM, vp, Bool.true_and, Bool.true_and]
  simp only [Bool.and_eq_true, decide_eq_true_eq, (ori_sg va vb vp).2.1, (ori_sg vb vc vp).2.1, (ori_sg vc va vp).2.1]
theorem at_corner {M : Tri3} (p : Pt) (hD : 0 < det M.A M.B M.C) : (p = M.A ↔ det M.A M.B p = 0 ∧ det M.C M.A p = 0) ∧ (p = M.B ↔ det M.B M.C p = 0 ∧ det M.A M.B p = 0) ∧ (p = M.C ↔ det M.C M.A p = 0 ∧ det M.B M.C p = 0) :=
  ⟨corner0 p hD, corner0 p (by rw [det_cyc]; exact hD), corner0 p (by rw [det_cyc, det_cyc]; exact hD)⟩
theorem beq_of {n m : Int} {b : Bool} (h : n = m ↔ b = true) : (n == m) = b := by
  rw [Bool.eq_iff_iff]; simpa using h
theorem ori_nv {a b p : Pt} (h : vld p = false) : ori a b p = 0 := by unfold ori; rw [if_neg]; simp [h]
theorem on_nv {a b p : Pt} (h : vld p = false) : onR p a b = false := by unfold onR; rw [h]; rfl
theorem inside_fin {a b c : Pt} (p : Pt) (h0 : ¬ ori a b c = 0) : InsFin (mk a b c) a b c p := by
  have hM := (mk_ok h0).1
  have hc := mk_corners h0 p
  obtain ⟨va, vb, vc⟩ := ori_vld h0
  obtain ⟨uA, uB, uC, hD⟩ := tri_signs hM
  generalize mk a b c = M at *
  unfold InsFin
  cases vp : vld p with
  | false =>
    have e1 : ¬ p = a := fun h => by rw [h, va] at vp; cases vp
    have e2 : ¬ p = b := fun h => by rw [h, vb] at vp; cases vp
    have e3 : ¬ p = c := fun h => by rw [h, vc] at vp; cases vp
    have n3 : cntN M p 3 = 0 := by rw [cntN3, ori_nv vp, ori_nv vp, ori_nv vp]; rfl
    have s3 : cntS M p 3 = 0 := by rw [cntS3, on_nv vp, on_nv vp, on_nv vp]; rfl
    have hi : insP M p = false := by unfold insP; rw [ori_nv vp]; simp
    have hh : hasP M p = false := by unfold hasP; rw [vp]; simp
    right; right; right; right; right
    exact ⟨hi, hh, by rw [n3]; rfl, by rw [s3]; rfl, by rw [s3]; rfl, peqI_ne.2 e1, peqI_ne.2 e2, peqI_ne.2 e3⟩
  | true =>
    have hI := insP_iff hM vp
    have hH := hasP_iff hM vp
    obtain ⟨k1, k2, k3⟩ := at_corner p hD
    have hs := det_sum M.A M.B M.C p
    have o1 := seg_on uA uB vp hD
    have o2 := seg_on (c := M.A) uB uC vp (by rw [det_cyc]; exact hD)
    have o3 := seg_on (c := M.B) uC uA vp (by rw [det_cyc, det_cyc]; exact hD)
    have n3 := cntN3 M p
    have s3 := cntS3 M p
    rw [k1, k2, k3] at hc
    simp only [(ori_sg uA uB vp).1, (ori_sg uB uC vp).1, (ori_sg uC uA vp).1] at n3
    simp only [o1, o2, o3] at s3
    generalize det M.A M.B p = u at *
    generalize det M.B M.C p = v at *
    generalize det M.C M.A p = w at *
    generalize det M.A M.B M.C = D at *
    generalize cntN M p 3 = n at *
    generalize cntS M p 3 = s at *
    have f1 : n = 3 ↔ 0 < u ∧ 0 < v ∧ 0 < w := by
      rw [n3]; (repeat' split) <;> omega
    have f2 : (0 < s ↔ (u = 0 ∧ 0 ≤ v ∧ 0 ≤ w) ∨ (v = 0 ∧ 0 ≤ w ∧ 0 ≤ u) ∨ (w = 0 ∧ 0 ≤ u ∧ 0 ≤ v)) := by
      rw [s3]; (repeat' split) <;> omega
    have f3 : s = 2 ↔ (u = 0 ∧ w = 0) ∨ (v = 0 ∧ u = 0) ∨ (w = 0 ∧ v = 0) := by
      rw [s3]; (repeat' split) <;> omega
    have f4 : 0 ≤ s := by rw [s3]; (repeat' split) <;> omega
    clear n3 s3 o1 o2 o3 k1 k2 k3
    by_cases hi : 0 < u ∧ 0 < v ∧ 0 < w
    · left
      have ha : ¬ p = a := fun h => by have := hc.1 (Or.inl h); omega
      have hb : ¬ p = b := fun h => by have := hc.1 (Or.inr (Or.inl h)); omega
      have hc' : ¬ p = c := fun h => by have := hc.1 (Or.inr (Or.inr h)); omega
      exact ⟨hI.2 hi, hH.2 (by omega), by simpa using f1.2 hi, by simp; omega, by simp; omega, peqI_ne.2 ha, peqI_ne.2 hb, peqI_ne.2 hc'⟩
    · have iF : insP M p = false := by rw [← Bool.not_eq_true, hI]; exact hi
      have nF : (n == 3) = false := by simp; omega
      right
      by_cases hh : 0 ≤ u ∧ 0 ≤ v ∧ 0 ≤ w
      · have hT := hH.2 hh
        have sT : decide (0 < s) = true := decide_eq_true (f2.2 (by omega))
        by_cases e1 : p = a
        · left; exact ⟨iF, hT, nF, sT, by simpa using f3.2 (hc.1 (Or.inl e1)), pp e1⟩
        by_cases e2 : p = b
        · right; left; exact ⟨iF, hT, nF, sT, by simpa using f3.2 (hc.1 (Or.inr (Or.inl e2))), peqI_ne.2 e1, pp e2⟩
        by_cases e3 : p = c
        · right; right; left; exact ⟨iF, hT, nF, sT, by simpa using f3.2 (hc.1 (Or.inr (Or.inr e3))), peqI_ne.2 e1, peqI_ne.2 e2, pp e3⟩
        right; right; right; left
        have ns : ¬ s = 2 := fun h => by
          rcases hc.2 (f3.1 h) with h | h | h
          · exact e1 h
          · exact e2 h
          · exact e3 h
        exact ⟨iF, hT, nF, sT, by simpa using ns, peqI_ne.2 e1, peqI_ne.2 e2, peqI_ne.2 e3⟩
      · right; right; right; right
        have hF : hasP M p = false := by rw [← Bool.not_eq_true, hH]; exact hh
        have ha : ¬ p = a := fun h => by have := hc.1 (Or.inl h); omega
        have hb : ¬ p = b := fun h => by have := hc.1 (Or.inr (Or.inl h)); omega
        have hc' : ¬ p = c := fun h => by have := hc.1 (Or.inr (Or.inr h)); omega
        exact ⟨iF, hF, nF, decide_eq_false (by omega), by simp; omega, peqI_ne.2 ha, peqI_ne.2 hb, peqI_ne.2 hc'⟩
def PartsFin (M : Tri3) (p : Pt) : Prop :=
  (insP M p = true ∧ (cntP M p 3 == 3) = true ∧ peqI p.x p.y M.A.x M.A.y = false ∧ peqI p.x p.y M.B.x M.B.y = false ∧ peqI p.x p.y M.C.x M.C.y = false) ∨
  (insP M p = false ∧ (cntP M p 3 == 2) = true ∧ peqI p.x p.y M.A.x M.A.y = false ∧ peqI p.x p.y M.B.x M.B.y = false ∧ peqI p.x p.y M.C.x M.C.y = false) ∨
  (insP M p = false ∧ (cntP M p 3 == 1) = true ∧ peqI p.x p.y M.A.x M.A.y = true) ∨
  (insP M p = false ∧ (cntP M p 3 == 1) = true ∧ peqI p.x p.y M.A.x M.A.y = false ∧ peqI p.x p.y M.B.x M.B.y = true) ∨
  (insP M p = false ∧ (cntP M p 3 == 1) = true ∧ peqI p.x p.y M.A.x M.A.y = false ∧ peqI p.x p.y M.B.x M.B.y = false ∧ peqI p.x p.y M.C.x M.C.y = true)
theorem twi_part {x y p : Pt} (vx : vld x = true) (vy : vld y = true) (vp : vld p = true) (h : 0 ≤ det x y p) : (if ori x y p = 0 then 0 else twi (mk x y p)) = det x y p := by
  have o := ori_sg vx vy vp
  have hb := ori_bd x y p
  split
  · omega
  · rw [twi_mk (by omega)]
theorem parts_fin {M : Tri3} {p : Pt} (hh : hasP M p = true) : PartsFin M p ∧ sumP M p 3 = twi M := by
  have h' := hh
  unfold hasP at h'
  simp only [Bool.and_eq_true] at h'
  have hM := h'.1
  have vp := h'.2.1
  clear h'
  obtain ⟨uA, uB, uC, hD⟩ := tri_signs hM
  have hI := insP_iff hM vp
  have hH := (hasP_iff hM vp).1 hh
  obtain ⟨k1, k2, k3⟩ := at_corner p hD
  have hs := det_sum M.A M.B M.C p
  have p3 := cntP3 M p
  have s3 := sumP3 M p
  rw [twi_part uA uB vp hH.1, twi_part uB uC vp hH.2.1, twi_part uC uA vp hH.2.2] at s3
  simp only [(ori_sg uA uB vp).2.2, (ori_sg uB uC vp).2.2, (ori_sg uC uA vp).2.2] at p3
  have tw : twi M = det M.A M.B M.C := by unfold twi; rw [if_pos hM]
  refine ⟨?_, by rw [s3, tw]; exact hs⟩
  clear s3 tw
  unfold PartsFin
  generalize det M.A M.B p = u at *
  generalize det M.B M.C p = v at *
  generalize det M.C M.A p = w at *
  generalize det M.A M.B M.C = D at *
  generalize cntP M p 3 = n at *
  by_cases hi : 0 < u ∧ 0 < v ∧ 0 < w
  · left
    have n3 : n = 3 := by rw [p3, if_neg (by omega), if_neg (by omega), if_neg (by omega)]; rfl
    exact ⟨hI.2 hi, by simpa using n3, peqI_ne.2 (fun h => by have := k1.1 h; omega), peqI_ne.2 (fun h => by have := k2.1 h; omega), peqI_ne.2 (fun h => by have := k3.1 h; omega)⟩
  · have iF : insP M p = false := by rw [← Bool.not_eq_true, hI]; exact hi
    right
    by_cases e1 : p = M.A
    · have := k1.1 e1
      right; left
      have n1 : n = 1 := by rw [p3, if_pos this.1, if_pos this.2, if_neg (by omega)]; rfl
      exact ⟨iF, by simpa using n1, pp e1⟩
    by_cases e2 : p = M.B
    · have := k2.1 e2
      right; right; left
      have n1 : n = 1 := by rw [p3, if_pos this.1, if_pos this.2, if_neg (by omega)]; rfl
      exact ⟨iF, by simpa using n1, peqI_ne.2 e1, pp e2⟩
    by_cases e3 : p = M.C
    · have := k3.1 e3
      right; right; right
      have n1 : n = 1 := by rw [p3, if_pos this.1, if_pos this.2, if_neg (by omega)]; rfl
      exact ⟨iF, by simpa using n1, peqI_ne.2 e1, peqI_ne.2 e2, pp e3⟩
    left
    rw [k1] at e1
    rw [k2] at e2
    rw [k3] at e3
    have n2 : n = 2 := by rw [p3]; (repeat' split) <;> omega
    exact ⟨iF, by simpa using n2, peqI_ne.2 (fun h => e1 (k1.1 h)), peqI_ne.2 (fun h => e2 (k2.1 h)), peqI_ne.2 (fun h => e3 (k3.1 h))⟩
end Go.Proofs.Ytaegobkkcgheeaa

namespace Go.Proofs.Ytaegobkkcgheeaa
open Go.RowKit Go.Sort
attribute [local go_sem] rOper rAt rUpon cell_set sg_i64 sg_u64 alloc_cell alloc_frozen
attribute [local go_sem 10000] pt_eql pt_neq
attribute [local irreducible] rWalk

theorem info_point : (Try.prog.info? 23).map (fun i => (i.zero, i.size, i.bytes)) = some (some (.agg #[.int .i64 0, .int .i64 0]), 2, 16) := by kernel_rfl
theorem owns_of_box {w : World} {B g n cap : Nat} {xs tl : List Value} {T : TypeId} (h : Box w g (xs ++ tl) T) (hB : B ≤ g) (hl : xs.length = n * 2) (hn : n ≤ cap) (hc : cap ≤ maxLen) (ht : tl.length = (cap - n) * 2) :
    w.ownsRow B T 2 (.slice (some ⟨g, 0, none⟩) n cap) n xs := by
  refine ⟨hl, Or.inr ⟨g, cap, (xs ++ tl).toArray, rfl, hB, h, hn, hc, ?_, ?_⟩⟩
  · simp [hl, ht]; omega
  · simp [← hl]
theorem Box.grownBy {w w' : World} {b : Nat} {cs : List Value} {T : TypeId} {row : Option Nat} (h : Box w b cs T) (hg : w.grownBy w' row) (hne : some b ≠ row) : Box w' b cs T := by
  have hl := h.lt
  unfold Box at *
  rw [hg.block b hl hne]; exact h
/-- One point appended to a row of the call's own. -/
theorem append_pt {w : World} {ops : Array Oper} {rest : List Oper} {o : Oper} {a : Act} {Q : Exit → Act → World → Prop} (hgd : o.guard = none) (s x : Operand)
    (ho : o.op = .call { callee := .builtin .append, args := #[s, x], argTypes := #[32, 32] })
    (B n : Nat) (v : Value) (xs : List Value) (hs : a.eval s = v) (hown : w.ownsRow B 23 2 v n xs)
    (bx : Nat) (p : Pt) (hx : a.eval x = .slice (some ⟨bx, 0, none⟩) 1 1) (hbx : Box w bx [.int .i64 p.x, .int .i64 p.y] 23) (hn : n ≤ 1000000) (hbase : B ≤ w.heap.size)
    (h : ∀ w' g cap tl, B ≤ g → Box w' g (xs ++ .int .i64 p.x :: .int .i64 p.y :: tl) 23 → n + 1 ≤ cap → cap ≤ maxLen → tl.length = (cap - (n + 1)) * 2 → w.grownBy w' v.ownBlock →
      wpList Try.prog ops Q rest (a.put o.dst (.slice (some ⟨g, 0, none⟩) (n + 1) cap)) w') : wpList Try.prog ops Q (o :: rest) a w := by
  obtain ⟨i0, hi, hz0, hz1, hz2⟩ := info_parts info_point
  refine wpList_append_own w hgd s x 32 ho B 23 i0 _ 2 16 Try.underlying32 hi hz0 hz1 hz2 rfl (by decide) v n xs hs hown ⟨bx, 0, none⟩ 1 1 [.int .i64 p.x, .int .i64 p.y] hx rfl ?_ ?_ ?_ ?_ hbase ?_
  · intro j u hj
    have := hbx.facts.1
    match j, hj with
    | 0, hj => simp at hj; subst hj; simp [Addr.add, this]
    | 1, hj => simp at hj; subst hj; simp [Addr.add, this]
  · intro u hu; simp at hu; rcases hu with rfl | rfl <;> rfl
  · unfold maxLen; omega
  · omega
  · intro v' w' hown' hg _
    obtain ⟨hl, ⟨_, h0⟩ | ⟨g, cap, cur, rfl, hB, hb, h1, h2, h3, h4⟩⟩ := hown'
    · omega
    · refine h w' g cap (cur.toList.drop ((n + 1) * 2)) hB ?_ h1 h2 ?_ hg
      · unfold Box
        rw [hb]
        have e : xs ++ .int .i64 p.x :: .int .i64 p.y :: cur.toList.drop ((n + 1) * 2) = cur.toList := by
          rw [show xs ++ .int .i64 p.x :: .int .i64 p.y :: cur.toList.drop ((n + 1) * 2) = (xs ++ [.int .i64 p.x, .int .i64 p.y]) ++ cur.toList.drop ((n + 1) * 2) by simp, ← h4, List.take_append_drop]
        rw [e]
      · rw [List.length_drop, Array.length_toList, h3, Nat.sub_mul]
end Go.Proofs.Ytaegobkkcgheeaa

namespace Go.Proofs.Ytaegobkkcgheeaa
open Go.RowKit Go.Sort
attribute [local go_sem] rOper rAt rUpon cell_set sg_i64 sg_u64 alloc_cell alloc_frozen
attribute [local go_sem 10000] pt_eql pt_neq tri_eql
attribute [local irreducible] rWalk

def Two (w : World) (A : Addr) (p : Pt) : Prop := A.block < w.heap.size ∧ w.cell? A = some (.int .i64 p.x) ∧ w.cell? ⟨A.block, A.off + 1, none⟩ = some (.int .i64 p.y)
theorem RowAt.two {w : World} {a : Option Addr} {L : List Pt} (h : RowAt cP 2 w a L) {j : Nat} (hj : j < L.length) : ∃ ad A, a = some ad ∧ ad.add (j * 2) = A ∧ Two w A L[j] := by
  obtain ⟨ad, A, h1, h2, _, h4, h5⟩ := h.pt hj
  exact ⟨ad, A, h1, h2, h4, h5⟩
theorem Two.ext {w w' : World} {A : Addr} {p : Pt} {n : Nat} (h : Two w A p) (hb : Below n w w') (hn : n = w.heap.size) : Two w' A p := by
  obtain ⟨h0, h1, h2⟩ := h
  have e : ∀ q : Addr, q.block = A.block → w'.cell? q = w.cell? q := fun q hq => hb.cell (by rw [hq, hn]; exact h0)
  exact ⟨Nat.lt_of_lt_of_le h0 hb.size, (e A rfl).trans h1, (e ⟨A.block, A.off + 1, none⟩ rfl).trans h2⟩
theorem Two.facts {w : World} {A : Addr} {p : Pt} (h : Two w A p) : (A.block = w.heap.size) = False ∧ w.cell? A = some (.int .i64 p.x) ∧ w.cell? ⟨A.block, A.off + 1, none⟩ = some (.int .i64 p.y) := ⟨by simp; have := h.1; omega, h.2⟩
theorem Two.cells {w : World} {A : Addr} {p : Pt} (h : Two w A p) : (∀ d os, (grow (redrawn w d) os).cell? A = some (.int .i64 p.x)) ∧ (∀ d os, (grow (redrawn w d) os).cell? ⟨A.block, A.off + 1, none⟩ = some (.int .i64 p.y)) :=
  ⟨fun d os => (h.ext (below_regrown w d os) rfl).2.1, fun d os => (h.ext (below_regrown w d os) rfl).2.2⟩
theorem Two.set {w : World} {A : Addr} {p : Pt} (h : Two w A p) (q : Addr) (v : Value) (hq : q.block ≠ A.block) : Two (w.setCell q v) A p := by
  obtain ⟨h0, h1, h2⟩ := h
  refine ⟨by simpa using h0, ?_, ?_⟩
  · rw [World.cell?_setCell_other (h := fun e => hq (by rw [e]))]; exact h1
  · rw [World.cell?_setCell_other (h := fun e => hq (by rw [e]))]; exact h2
/-- A row of points in a block of its own. -/
theorem flat_set (tl : List Value) : ∀ (S : List Pt) (j : Nat) (p : Pt), j < S.length → ((S.flatMap cP ++ tl).set (j * 2) (.int .i64 p.x)).set (j * 2 + 1) (.int .i64 p.y) = (S.set j p).flatMap cP ++ tl
  | q :: S, 0, p, _ => by simp [cP]
  | q :: S, j + 1, p, h => by
    have ih := flat_set tl S j p (by simpa using h)
    simp only [List.flatMap_cons, cP, List.cons_append, List.nil_append, List.set_cons_succ] at ih ⊢
    rw [show (j + 1) * 2 = j * 2 + 1 + 1 by omega]
    simp only [List.set_cons_succ]
    rw [ih]
theorem box_two {w : World} {g : Nat} {S : List Pt} {tl : List Value} (h : Box w g (S.flatMap cP ++ tl) 23) {j : Nat} (hj : j < S.length) :
    w.cell? ⟨g, j * 2, none⟩ = some (.int .i64 S[j].x) ∧ w.cell? ⟨g, j * 2 + 1, none⟩ = some (.int .i64 S[j].y) ∧ w.frozen? ⟨g, j * 2, none⟩ = false ∧ w.frozen? ⟨g, j * 2 + 1, none⟩ = false := by
  have hf := h.facts
  have e : ∀ i, i < 2 → (S.flatMap cP ++ tl)[j * 2 + i]? = (cP S[j])[i]? := fun i hi => by
    rw [List.getElem?_append_left (by rw [flatMap_len cP_len]; omega)]
    exact flatMap_get cP_len S j i S[j] (List.getElem?_eq_getElem hj) hi
  have e0 := e 0 (by omega)
  have e1 := e 1 (by omega)
  refine ⟨by rw [hf.1, show j * 2 = j * 2 + 0 from rfl, e0]; rfl, by rw [hf.1, e1]; rfl, hf.2.1 _, hf.2.1 _⟩
theorem box_put {w : World} {g : Nat} {S : List Pt} {tl : List Value} (h : Box w g (S.flatMap cP ++ tl) 23) {j : Nat} (hj : j < S.length) (p : Pt) :
    Box ((w.setCell ⟨g, j * 2, none⟩ (.int .i64 p.x)).setCell ⟨g, j * 2 + 1, none⟩ (.int .i64 p.y)) g ((S.set j p).flatMap cP ++ tl) 23 := by
  rw [← flat_set tl S j p hj]
  exact (h.set (j * 2) _).set (j * 2 + 1) _
set_option maxRecDepth 100000 in
set_option maxHeartbeats 4000000 in
theorem rsortP_any (a0 : Option Addr) (c0 n : Nat) (L : List Pt) (hL : Hid (L.length = n)) (hn : n ≤ 500000) (w : World) (h0 : RowAt cP 2 w a0 L) :
    Calls Try.prog 8 #[.slice a0 n c0] w fun e w' => ∃ (M : List Pt) (a : Option Addr) (cap : Nat), e = .returned (.slice a M.length cap) ∧ RowAt cP 2 w' a M ∧ Rising cmpP M ∧ (∀ p, p ∈ M ↔ p ∈ L) ∧ Below w.heap.size w w' := by
  go_enter Try.func8, Try.ntmps8
  go_wp2
  go_loopw [3, 4] (fun vo vi wr => ∃ (k : Nat) (M : List Pt), vi = .int .i64 k ∧ k ≤ n ∧ Hid (Rising cmpP M) ∧ Hid (∀ p, p ∈ M ↔ p ∈ L.take k) ∧ M.length ≤ k ∧ wr.ownsRow w.heap.size 23 2 vo M.length (M.flatMap cP) ∧ Below w.heap.size w wr) (fun _ vi _ => n - (intOf vi).toNat)
  case atStart => exact ⟨0, [], rfl, Nat.zero_le _, Lib.hid (by simp [Rising]), Lib.hid (by simp), Nat.le_refl _, World.ownsRow_nil _ _ _ _, Below.refl _ _⟩
  case round =>
    obtain ⟨k, M, rfl, hk, hR, hM, hMk, hown, hw⟩ := hrel
    by_cases hlt : k < n
    case neg =>
      obtain ⟨a, cap, rfl, _, hr⟩ := rowAt_of_owns2 cP_len hown
      have HM := Lib.hid (show ∀ p, p ∈ M ↔ p ∈ L by intro p; rw [hM.out p, List.take_of_length_le (by rw [hL.out]; omega)])
      go_wp2
      go_ret
      exact ⟨M, a, cap, rfl, hr, hR.out, HM.out, hw⟩
    case pos =>
      have hlk : k < L.length := hL.out ▸ hlt
      obtain ⟨ad, A, ea, eA, hA0⟩ := h0.two hlk
      have hA := hA0.ext hw rfl
      obtain ⟨a1, c1, rfl, hc1, hr1⟩ := rowAt_of_owns2 cP_len hown
      have hT := Lib.hid (show L.take (k + 1) = L.take k ++ [L[k]] from List.take_succ_eq_append_getElem hlk)
      generalize L[k] = x at *
      go_wp2
      obtain ⟨W0, rfl⟩ : ∃ W0, W0 = wr := ⟨_, rfl⟩
      go_loopw [5] (fun va wr => ∃ a : Nat, va = .int .i64 a ∧ a ≤ M.length ∧ Hid (∀ (i : Nat) (_ : a ≤ i) (h2 : i < M.length), 0 < cmpP (M[i]'h2) x) ∧ Below W0.heap.size W0 wr) (fun va _ => (intOf va).toNat)
      case atStart => exact ⟨M.length, rfl, Nat.le_refl _, Lib.hid (fun i h1 h2 => by omega), Below.refl _ _⟩
      case round =>
        obtain ⟨a, rfl, haM, hhi, hw1⟩ := hrel
        rcases a with _ | j
        · have hAT : 0 ≤ M.length := Nat.zero_le _
          have hlo : ∀ (i : Nat) (hi : i < 0), cmpP (M[i]'(by omega)) x < 0 := fun i hi => by omega
          have hhi2 : ∀ (i : Nat) (_ : 0 ≤ i) (h2 : i < M.length), 0 < cmpP (M[i]'h2) x := fun i h1 h2 => hhi.out i h1 h2
          have HHI := Lib.hid hhi2
          clear hhi hhi2
          go_wp2
          refine wp_region_tail 14 (by kernel_rfl) (by kernel_rfl) (C := fun w' => ∃ p : Regrown, w' = grow (redrawn wr p.d) p.os) (fun w' h => regrown_of_below h) ?_
          simp only [List.take_succ_cons, List.take_zero, List.drop_succ_cons, List.drop_zero]
          repeat (first | (refine rWalk_skip (Eq.refl false) ?_; simp only [Act.put, List.setIfInBounds_toArray, List.set_cons_succ, List.set_cons_zero]) | (refine rWalk_step (fun K hK => ?_); go_simp; first | (refine hK _ ?_; clear hK K) | (apply Exists.intro; refine ⟨fun _ => ?_, hK _ ?_⟩; (first | fail); clear hK K)))
          refine rWalk_nil ?_
          intro w2 hb
          have hw2 := hw1.trans (hb.mono hw1.size)
          go_wp2
          refine wp_region_tail 13 (by kernel_rfl) (by kernel_rfl) (C := fun w' => ∃ p : Regrown, w' = grow (redrawn w2 p.d) p.os) (fun w' h => regrown_of_below h) ?_
          simp only [List.take_succ_cons, List.take_zero, List.drop_succ_cons, List.drop_zero]
          repeat (first | (refine rWalk_skip (Eq.refl false) ?_; simp only [Act.put, List.setIfInBounds_toArray, List.set_cons_succ, List.set_cons_zero]) | (refine rWalk_step (fun K hK => ?_); go_simp; first | (refine hK _ ?_; clear hK K) | (apply Exists.intro; refine ⟨fun _ => ?_, hK _ ?_⟩; (first | fail); clear hK K)))
          refine rWalk_nil ?_
          intro w3 hb3
          have hw3 := hw2.trans (hb3.mono hw2.size)
          have hhi2 := HHI.out
          have HI := Lib.hid (rising_insert wholeP hR.out (x := x) (k := 0) hAT hlo hhi2)
          obtain ⟨z1, t0, t1⟩ := (hA.ext hw3 rfl).facts
          have own3 := hown.kept (grown_of_below hw3 none) (by cases a1 <;> simp [Value.ownBlock])
          have HB := Lib.hid (Nat.le_trans hw.size hw3.size)
          have hMn : M.length ≤ 1000000 := by omega
          have hw3w := hw.trans (hw3.mono hw.size)
          have hlt0 := fun q hq => (own3.lt q hq).1
          clear hlo hhi2
          go_wp2_with (at_builtin; refine append_pt rfl _ _ rfl w.heap.size M.length _ (M.flatMap cP) rfl (own3.alloc _) w3.heap.size x rfl (Box.new rfl) hMn (by have := HB.out; simp; omega) ?_; intro w4 g cap tl hg0 hbx hcp1 hcp2 htl hg4)
          have hw4 := (hw3w.alloc HB.out (.cells #[.int .i64 x.x, .int .i64 x.y] 23)).grown hg4 (by have := HB.out; simp; omega) hlt0
          have hbx2 : Box w4 g ((M ++ [x]).flatMap cP ++ tl) 23 := by simpa [cP] using hbx
          clear z1 t0 t1 own3 hg4 hlt0 hbx
          go_loopw [6] (fun vk wr => ∃ (q : Nat) (S : List Pt), vk = .int .i64 q ∧ 0 ≤ q ∧ q ≤ M.length ∧ Hid (Moved M S q) ∧ Box wr g (S.flatMap cP ++ tl) 23 ∧ Below w.heap.size w wr) (fun vk _ => (intOf vk).toNat)
          case atStart => exact ⟨M.length, M ++ [x], by first | rfl | go_num, hAT, Nat.le_refl _, Lib.hid (moved_start M x), hbx2, hw4⟩
          case round =>
            clear hbx2 hw4
            obtain ⟨q, S, rfl, hq1, hq2, hS, hbS, hwS⟩ := hrel
            have hSl := hS.out.len
            by_cases hq : 0 < q
            · rcases q with _ | q
              · omega
              · have hqM : q < M.length := hq2
                obtain ⟨u0, u1, _, _⟩ := box_two hbS (j := q) (by omega)
                obtain ⟨y0, y1, v0, v1, f0, f1⟩ : ∃ y0 y1, wr.cell? ⟨g, (q + 1) * 2, none⟩ = some y0 ∧ wr.cell? ⟨g, (q + 1) * 2 + 1, none⟩ = some y1 ∧ wr.frozen? ⟨g, (q + 1) * 2, none⟩ = false ∧ wr.frozen? ⟨g, (q + 1) * 2 + 1, none⟩ = false := ⟨_, _, box_two hbS (j := q + 1) (by omega)⟩
                have eg : S[q] = M[q] := hS.out.get hqM
                have hHS := Lib.hid (hS.out.step hqM)
                have hbS2 := box_put hbS (j := q + 1) (by omega) (M[q]'hqM)
                rw [eg] at u0 u1
                have n5 : q < M.length + 1 := by omega
                have n6 : q + 1 < M.length + 1 := by omega
                have HBS := Lib.hid hbS2
                have HW := Lib.hid hwS
                clear eg hbS2 hwS hS
                clear hbS hSl
                go_wp2
                exact ⟨⟨q, S.set (q + 1) (M[q]'hqM), rfl, by omega, by omega, hHS, HBS.out, (HW.out.setCell hg0 _).setCell hg0 _⟩, by simp [intOf]⟩
            · obtain rfl : q = 0 := by omega
              obtain ⟨y0, y1, v0, v1, f0, f1⟩ : ∃ y0 y1, wr.cell? ⟨g, 0, none⟩ = some y0 ∧ wr.cell? ⟨g, 1, none⟩ = some y1 ∧ wr.frozen? ⟨g, 0, none⟩ = false ∧ wr.frozen? ⟨g, 1, none⟩ = false := ⟨_, _, box_two hbS (j := 0) (by omega)⟩
              have hbS2 := box_put hbS (j := 0) (by omega) x
              rw [hS.out.done hAT x] at hbS2
              have HBS := Lib.hid hbS2
              have HW := Lib.hid ((hwS.setCell (p := ⟨g, 0, none⟩) hg0 (.int .i64 x.x)).setCell (p := ⟨g, 1, none⟩) hg0 (.int .i64 x.y))
              obtain ⟨z1, t0, t1⟩ := (hA0.ext hwS rfl).facts
              have n8 : 0 < M.length + 1 := by omega
              have HLn := Lib.hid (show (M.take 0 ++ x :: M.drop 0).length = M.length + 1 by rw [List.length_append, List.length_cons, List.length_take, List.length_drop]; omega)
              have HMB := Lib.hid (show ∀ p, p ∈ M.take 0 ++ x :: M.drop 0 ↔ p ∈ L.take (k + 1) by intro p; rw [HI.out.2 p, hM.out p, hT.out]; simp)
              clear hbS2 hwS hbS hS hSl hq
              go_wp2
              try rw [← ea]
              go_roundw
              case rel => exact ⟨k + 1, M.take 0 ++ x :: M.drop 0, by go_num, by omega, Lib.hid HI.out.1, HMB, by rw [HLn.out]; omega, by rw [HLn.out]; exact owns_of_box HBS.out hg0 (by rw [flatMap_len cP_len, HLn.out]) hcp1 hcp2 htl, HW.out⟩
              case measure => simp [intOf]; omega

        · obtain ⟨ad1, A1, ea1, eA1, hB0⟩ := hr1.two (j := j) (by omega)
          have hB := hB0.ext hw1 rfl
          have hA1 := hA.ext hw1 rfl
          have hjM : j < M.length := haM
          have cc := rcmp_pt (M[j]'(by omega)) x
          have e1 : IntKind.i64.wrap (j : Int) = j := by rw [IntKind.wrap_i64]; omega
          by_cases hc : 0 < cmpP (M[j]'(by omega)) x
          · have hd : decide (0 < cmpP (M[j]'(by omega)) x) = true := by simpa using hc
            have HH := Lib.hid (show ∀ (i : Nat) (_ : j ≤ i) (h2 : i < M.length), 0 < cmpP (M[i]'h2) x from fun i h1 h2 => by
              by_cases e : i = j
              · subst e; exact hc
              · exact hhi.out i (by omega) h2)
            clear hc hhi
            generalize cmpP (M[j]'(by omega)) x = q at *
            obtain ⟨t0, t1⟩ := hA1.cells
            obtain ⟨s0, s1⟩ := hB.cells
            go_wp2
            refine wp_region_tail 14 (by kernel_rfl) (by kernel_rfl) (C := fun w' => ∃ p : Regrown, w' = grow (redrawn wr p.d) p.os) (fun w' h => regrown_of_below h) ?_
            simp only [List.take_succ_cons, List.take_zero, List.drop_succ_cons, List.drop_zero]
            repeat (first | (refine rWalk_skip (Eq.refl false) ?_; simp only [Act.put, List.setIfInBounds_toArray, List.set_cons_succ, List.set_cons_zero]) | (refine rWalk_step (fun K hK => ?_); go_simp; first | (refine hK _ ?_; clear hK K) | (apply Exists.intro; refine ⟨fun _ => ?_, hK _ ?_⟩; (first | with_reducible exact toExt cc _); clear hK K)))
            refine rWalk_nil ?_
            intro w2 hb
            have hw2 := hw1.trans (hb.mono hw1.size)
            have e2 : wrap64 (((j + 1 : Nat) : Int) - 1) = j := by rw [w64]; omega
            go_wp2
            try rw [← ea1]
            try rw [← ea]
            go_roundw
            case rel => exact ⟨j, by go_num, by omega, HH, hw2⟩
            case measure => simp [intOf]
          · have hd : decide (0 < cmpP (M[j]'(by omega)) x) = false := by simpa using hc
            by_cases hx : M[j]'hjM = x
            · skip
              have hp : peqI (M[j]'hjM).x (M[j]'hjM).y x.x x.y = true := peqI_pt.2 hx
              have HMB := Lib.hid (show ∀ p, p ∈ M ↔ p ∈ L.take (k + 1) by
                intro p
                rw [hT.out, List.mem_append, ← hM.out p]
                constructor
                · exact .inl
                · rintro (h | h)
                  · exact h
                  · simp at h; subst h; rw [← hx]; exact List.getElem_mem hjM)
              clear hc hx hhi
              generalize cmpP (M[j]'hjM) x = q at *
              obtain ⟨t0, t1⟩ := hA1.cells
              obtain ⟨s0, s1⟩ := hB.cells
              go_wp2
              refine wp_region_tail 14 (by kernel_rfl) (by kernel_rfl) (C := fun w' => ∃ p : Regrown, w' = grow (redrawn wr p.d) p.os) (fun w' h => regrown_of_below h) ?_
              simp only [List.take_succ_cons, List.take_zero, List.drop_succ_cons, List.drop_zero]
              repeat (first | (refine rWalk_skip (Eq.refl false) ?_; simp only [Act.put, List.setIfInBounds_toArray, List.set_cons_succ, List.set_cons_zero]) | (refine rWalk_step (fun K hK => ?_); go_simp; first | (refine hK _ ?_; clear hK K) | (apply Exists.intro; refine ⟨fun _ => ?_, hK _ ?_⟩; (first | with_reducible exact toExt cc _); clear hK K)))
              refine rWalk_nil ?_
              intro w2 hb
              have hw2 := hw1.trans (hb.mono hw1.size)
              clear t0 t1 s0 s1 hd
              obtain ⟨t0, t1⟩ := (hA1.ext hb rfl).cells
              obtain ⟨s0, s1⟩ := (hB.ext hb rfl).cells
              go_wp2
              refine wp_region_tail 13 (by kernel_rfl) (by kernel_rfl) (C := fun w' => ∃ p : Regrown, w' = grow (redrawn w2 p.d) p.os) (fun w' h => regrown_of_below h) ?_
              simp only [List.take_succ_cons, List.take_zero, List.drop_succ_cons, List.drop_zero]
              repeat (first | (refine rWalk_skip (Eq.refl false) ?_; simp only [Act.put, List.setIfInBounds_toArray, List.set_cons_succ, List.set_cons_zero]) | (refine rWalk_step (fun K hK => ?_); go_simp; first | (refine hK _ ?_; clear hK K) | (apply Exists.intro; refine ⟨fun _ => ?_, hK _ ?_⟩; (first | fail); clear hK K)))
              refine rWalk_nil ?_
              intro w3 hb3
              have hw3 := hw2.trans (hb3.mono hw2.size)
              have own3 := hown.kept (grown_of_below hw3 none) (by cases a1 <;> simp [Value.ownBlock])
              have hw3w := hw.trans (hw3.mono hw.size)
              clear t0 t1 s0 s1 hp cc hb3 hw1 hw2
              go_wp2
              try rw [← ea1]
              try rw [← ea]
              go_roundw
              case rel => exact ⟨k + 1, M, by go_num, by omega, hR, HMB, by omega, own3, hw3w⟩
              case measure => simp [intOf]; omega

            · have hlt1 : cmpP (M[j]'hjM) x < 0 := by have := cmpP_eq0 (p := M[j]'hjM) (q := x); have : cmpP (M[j]'hjM) x ≠ 0 := fun e => hx (this.1 e); omega
              have hAT : j + 1 ≤ M.length := hjM
              have hlo : ∀ (i : Nat) (hi : i < j + 1), cmpP (M[i]'(by omega)) x < 0 := rising_below wholeP hR.out hjM hlt1
              have hhi2 := fun i h1 h2 => hhi.out i h1 h2
              have hp : peqI (M[j]'hjM).x (M[j]'hjM).y x.x x.y = false := by rw [← Bool.not_eq_true, peqI_pt]; exact hx
              clear hc hx hlt1 hhi
              generalize cmpP (M[j]'hjM) x = q at *
              obtain ⟨t0, t1⟩ := hA1.cells
              obtain ⟨s0, s1⟩ := hB.cells
              go_wp2
              refine wp_region_tail 14 (by kernel_rfl) (by kernel_rfl) (C := fun w' => ∃ p : Regrown, w' = grow (redrawn wr p.d) p.os) (fun w' h => regrown_of_below h) ?_
              simp only [List.take_succ_cons, List.take_zero, List.drop_succ_cons, List.drop_zero]
              repeat (first | (refine rWalk_skip (Eq.refl false) ?_; simp only [Act.put, List.setIfInBounds_toArray, List.set_cons_succ, List.set_cons_zero]) | (refine rWalk_step (fun K hK => ?_); go_simp; first | (refine hK _ ?_; clear hK K) | (apply Exists.intro; refine ⟨fun _ => ?_, hK _ ?_⟩; (first | with_reducible exact toExt cc _); clear hK K)))
              refine rWalk_nil ?_
              intro w2 hb
              have hw2 := hw1.trans (hb.mono hw1.size)
              clear t0 t1 s0 s1 hd
              obtain ⟨t0, t1⟩ := (hA1.ext hb rfl).cells
              obtain ⟨s0, s1⟩ := (hB.ext hb rfl).cells
              go_wp2
              refine wp_region_tail 13 (by kernel_rfl) (by kernel_rfl) (C := fun w' => ∃ p : Regrown, w' = grow (redrawn w2 p.d) p.os) (fun w' h => regrown_of_below h) ?_
              simp only [List.take_succ_cons, List.take_zero, List.drop_succ_cons, List.drop_zero]
              repeat (first | (refine rWalk_skip (Eq.refl false) ?_; simp only [Act.put, List.setIfInBounds_toArray, List.set_cons_succ, List.set_cons_zero]) | (refine rWalk_step (fun K hK => ?_); go_simp; first | (refine hK _ ?_; clear hK K) | (apply Exists.intro; refine ⟨fun _ => ?_, hK _ ?_⟩; (first | fail); clear hK K)))
              refine rWalk_nil ?_
              intro w3 hb3
              have hw3 := hw2.trans (hb3.mono hw2.size)
              clear t0 t1 s0 s1 hp cc
              have HI := Lib.hid (rising_insert wholeP hR.out (x := x) (k := (j + 1)) hAT hlo hhi2)
              obtain ⟨z1, t0, t1⟩ := (hA.ext hw3 rfl).facts
              have own3 := hown.kept (grown_of_below hw3 none) (by cases a1 <;> simp [Value.ownBlock])
              rw [ea1] at own3
              have HB := Lib.hid (Nat.le_trans hw.size hw3.size)
              have hMn : M.length ≤ 1000000 := by omega
              have hw3w := hw.trans (hw3.mono hw.size)
              have hlt0 := fun q hq => (own3.lt q hq).1
              clear hlo hhi2
              go_wp2_with (at_builtin; refine append_pt rfl _ _ rfl w.heap.size M.length _ (M.flatMap cP) rfl (own3.alloc _) w3.heap.size x rfl (Box.new rfl) hMn (by have := HB.out; simp; omega) ?_; intro w4 g cap tl hg0 hbx hcp1 hcp2 htl hg4)
              have hw4 := (hw3w.alloc HB.out (.cells #[.int .i64 x.x, .int .i64 x.y] 23)).grown hg4 (by have := HB.out; simp; omega) hlt0
              have hbx2 : Box w4 g ((M ++ [x]).flatMap cP ++ tl) 23 := by simpa [cP] using hbx
              clear z1 t0 t1 own3 hg4 hlt0 hbx
              go_loopw [6] (fun vk wr => ∃ (q : Nat) (S : List Pt), vk = .int .i64 q ∧ (j + 1) ≤ q ∧ q ≤ M.length ∧ Hid (Moved M S q) ∧ Box wr g (S.flatMap cP ++ tl) 23 ∧ Below w.heap.size w wr) (fun vk _ => (intOf vk).toNat)
              case atStart => exact ⟨M.length, M ++ [x], by first | rfl | go_num, hAT, Nat.le_refl _, Lib.hid (moved_start M x), hbx2, hw4⟩
              case round =>
                clear hbx2 hw4
                obtain ⟨q, S, rfl, hq1, hq2, hS, hbS, hwS⟩ := hrel
                have hSl := hS.out.len
                by_cases hq : (j + 1) < q
                · rcases q with _ | q
                  · omega
                  · have hqM : q < M.length := hq2
                    obtain ⟨u0, u1, _, _⟩ := box_two hbS (j := q) (by omega)
                    obtain ⟨y0, y1, v0, v1, f0, f1⟩ : ∃ y0 y1, wr.cell? ⟨g, (q + 1) * 2, none⟩ = some y0 ∧ wr.cell? ⟨g, (q + 1) * 2 + 1, none⟩ = some y1 ∧ wr.frozen? ⟨g, (q + 1) * 2, none⟩ = false ∧ wr.frozen? ⟨g, (q + 1) * 2 + 1, none⟩ = false := ⟨_, _, box_two hbS (j := q + 1) (by omega)⟩
                    have eg : S[q] = M[q] := hS.out.get hqM
                    have hHS := Lib.hid (hS.out.step hqM)
                    have hbS2 := box_put hbS (j := q + 1) (by omega) (M[q]'hqM)
                    rw [eg] at u0 u1
                    have n5 : q < M.length + 1 := by omega
                    have n6 : q + 1 < M.length + 1 := by omega
                    have HBS := Lib.hid hbS2
                    have HW := Lib.hid hwS
                    clear eg hbS2 hwS hS
                    clear hbS hSl
                    go_wp2
                    exact ⟨⟨q, S.set (q + 1) (M[q]'hqM), rfl, by omega, by omega, hHS, HBS.out, (HW.out.setCell hg0 _).setCell hg0 _⟩, by simp [intOf]⟩
                · obtain rfl : q = (j + 1) := by omega
                  obtain ⟨y0, y1, v0, v1, f0, f1⟩ : ∃ y0 y1, wr.cell? ⟨g, (j + 1) * 2, none⟩ = some y0 ∧ wr.cell? ⟨g, (j + 1) * 2 + 1, none⟩ = some y1 ∧ wr.frozen? ⟨g, (j + 1) * 2, none⟩ = false ∧ wr.frozen? ⟨g, (j + 1) * 2 + 1, none⟩ = false := ⟨_, _, box_two hbS (j := (j + 1)) (by omega)⟩
                  have hbS2 := box_put hbS (j := (j + 1)) (by omega) x
                  rw [hS.out.done hAT x] at hbS2
                  have HBS := Lib.hid hbS2
                  have HW := Lib.hid ((hwS.setCell (p := ⟨g, (j + 1) * 2, none⟩) hg0 (.int .i64 x.x)).setCell (p := ⟨g, (j + 1) * 2 + 1, none⟩) hg0 (.int .i64 x.y))
                  obtain ⟨z1, t0, t1⟩ := (hA0.ext hwS rfl).facts
                  have n8 : (j + 1) < M.length + 1 := by omega
                  have HLn := Lib.hid (show (M.take (j + 1) ++ x :: M.drop (j + 1)).length = M.length + 1 by rw [List.length_append, List.length_cons, List.length_take, List.length_drop]; omega)
                  have HMB := Lib.hid (show ∀ p, p ∈ M.take (j + 1) ++ x :: M.drop (j + 1) ↔ p ∈ L.take (k + 1) by intro p; rw [HI.out.2 p, hM.out p, hT.out]; simp)
                  clear hbS2 hwS hbS hS hSl hq
                  go_wp2
                  try rw [← ea]
                  go_roundw
                  case rel => exact ⟨k + 1, M.take (j + 1) ++ x :: M.drop (j + 1), by go_num, by omega, Lib.hid HI.out.1, HMB, by rw [HLn.out]; omega, by rw [HLn.out]; exact owns_of_box HBS.out hg0 (by rw [flatMap_len cP_len, HLn.out]) hcp1 hcp2 htl, HW.out⟩
                  case measure => simp [intOf]; omega

end Go.Proofs.Ytaegobkkcgheeaa
