/- slices.MinFunc over four points, by Cmp: the least. -/
import Derived.Test.YtmdehannbbpnaaaRows
import Derived.Test.YtmdehannbbpnaaaExC
import Derived.Test.YtmdehannbbpnaaaPost
import Derived.WalkKit
import Derived.WalkSpells
import Derived.WalkLawsBesides
import Derived.Laws.Externs
import Derived.Deep.QuietTactic
import Derived.BigQuiet
import Derived.Lib.Hide
import Derived.Handy
import Derived.LoopTactic
namespace Go.Proofs.Ytmdehannbbpnaaa
open Go.RowKit Go.Sort
attribute [local go_sem] rOper rAt rUpon cell_set sg_i64 sg_u64 alloc_cell alloc_frozen
attribute [local go_sem 10000] pt_eql pt_neq
attribute [local irreducible] rWalk

/-- The lesser, the second one if they are equal. -/
def lsr (p m : Pt) : Pt := if cmpP p m < 0 then p else m
def min4 (a b c d : Pt) : Pt := lsr d (lsr c (lsr b a))
def minTo (a b c d : Pt) (k : Nat) : Pt := if k = 1 then a else if k = 2 then lsr b a else if k = 3 then lsr c (lsr b a) else min4 a b c d
set_option maxHeartbeats 1000000 in
theorem minF_any (a b c d : Pt) (w : World) (bk : Nat) (hB : Box w bk [.int .i64 a.x, .int .i64 a.y, .int .i64 b.x, .int .i64 b.y, .int .i64 c.x, .int .i64 c.y, .int .i64 d.x, .int .i64 d.y] 23) :
    Calls Try.prog 33 #[.slice (some ⟨bk, 0, none⟩) 4 4, .func (.func 12) #[] #[]] w fun e w' => e = .returned (.agg #[.int .i64 (min4 a b c d).x, .int .i64 (min4 a b c d).y]) ∧ Below w.heap.size w w' := by
  have l0 := hB.lt
  obtain ⟨xs, ys, zs, vs⟩ := hB.facts
  go_enter Try.func33, Try.ntmps33
  go_wp2_with fail
  go_loopw [6] (fun i wr => ∃ (k : Nat) (m : Pt), 1 ≤ k ∧ k ≤ 4 ∧ i = .int .i64 k ∧ Hid (m = minTo a b c d k) ∧ Below w.heap.size w wr ∧ Box wr w.heap.size [.int .i64 0, .int .i64 0] 23 ∧ Box wr (w.heap.size + 1) [.int .i64 m.x, .int .i64 m.y] 23 ∧ Box wr bk [.int .i64 a.x, .int .i64 a.y, .int .i64 b.x, .int .i64 b.y, .int .i64 c.x, .int .i64 c.y, .int .i64 d.x, .int .i64 d.y] 23) (fun i _ => 4 - (intOf i).toNat)
  case atStart => exact ⟨1, a, by omega, by omega, rfl, Lib.hid rfl, by go_grown, (Box.new rfl).old _, Box.new (by simp), (hB.old _).old _⟩
  case round =>
    obtain ⟨k, m, k1, k4, rfl, hm, hw, Bz, Bm, Bs⟩ := hrel
    clear xs ys zs vs
    have hk : k = 1 ∨ k = 2 ∨ k = 3 ∨ k = 4 := by omega
    rcases hk with rfl | rfl | rfl | rfl
    · have e1 : minTo a b c d 1 = m := hm.out.symm
      have Q : Hid (minTo a b c d 2 = lsr b m) := Lib.hid (by rw [← e1]; rfl)
      clear e1 hm
      have cm := cmp_pt b m
      obtain ⟨xz, yz, zz, vz⟩ := Bz.facts
      obtain ⟨xm, ym, zm, vm⟩ := Bm.facts
      obtain ⟨xs, ys, zs, vs⟩ := Bs.facts
      by_cases hc : cmpP b m < 0
      · have eL : Hid (lsr b m = b) := Lib.hid (by unfold lsr; rw [if_pos hc])
        have hd : decide (cmpP b m < 0) = true := by simpa using hc
        have nbm : ¬ bk = w.heap.size + 1 := by omega
        go_wp2_with fail
        have gz := Bz.cells
        have gm := Bm.cells
        have gs := Bs.cells
        refine wp_region_tail 7 (by kernel_rfl) (by kernel_rfl) (C := fun w' => ∃ p : Regrown, w' = grow (redrawn wr p.d) p.os) (fun w' h => regrown_of_below h) ?_
        simp only [List.take_succ_cons, List.take_zero, List.drop_succ_cons, List.drop_zero]
        repeat (first | (refine rWalk_skip (Eq.refl false) ?_; simp only [Act.put, List.setIfInBounds_toArray, List.set_cons_succ, List.set_cons_zero]) | (refine rWalk_step (fun K hK => ?_); go_simp; first | (refine hK _ ?_; clear hK K) | (apply Exists.intro; refine ⟨fun _ => ?_, hK _ ?_⟩; (first | with_reducible exact toExt cm _); clear hK K)))
        refine rWalk_nil ?_
        intro w51 hb
        clear gz gm gs
        clear xz yz zz vz xm ym zm vm xs ys zs vs
        replace Bz := Bz.ext hb rfl
        replace Bm := Bm.ext hb rfl
        replace Bs := Bs.ext hb rfl
        replace hw := hw.trans (hb.mono hw.size)
        obtain ⟨xz, yz, zz, vz⟩ := Bz.facts
        obtain ⟨xm, ym, zm, vm⟩ := Bm.facts
        obtain ⟨xs, ys, zs, vs⟩ := Bs.facts
        go_wp2_with fail
        go_roundw
        case rel =>
          exact ⟨2, b, by omega, by omega, rfl, Lib.hid (by rw [Q.out, eL.out]), by go_grown, (Bz.set_ne _ _ (by simp)).set_ne _ _ (by simp), (Bm.set 0 (.int .i64 b.x)).set 1 (.int .i64 b.y), (Bs.set_ne _ _ (by simp; omega)).set_ne _ _ (by simp; omega)⟩
        case measure => simp [intOf]
      · have eL : Hid (lsr b m = m) := Lib.hid (by unfold lsr; rw [if_neg hc])
        have hd : decide (cmpP b m < 0) = false := by simpa using hc
        go_wp2_with fail
        have gz := Bz.cells
        have gm := Bm.cells
        have gs := Bs.cells
        refine wp_region_tail 7 (by kernel_rfl) (by kernel_rfl) (C := fun w' => ∃ p : Regrown, w' = grow (redrawn wr p.d) p.os) (fun w' h => regrown_of_below h) ?_
        simp only [List.take_succ_cons, List.take_zero, List.drop_succ_cons, List.drop_zero]
        repeat (first | (refine rWalk_skip (Eq.refl false) ?_; simp only [Act.put, List.setIfInBounds_toArray, List.set_cons_succ, List.set_cons_zero]) | (refine rWalk_step (fun K hK => ?_); go_simp; first | (refine hK _ ?_; clear hK K) | (apply Exists.intro; refine ⟨fun _ => ?_, hK _ ?_⟩; (first | with_reducible exact toExt cm _); clear hK K)))
        refine rWalk_nil ?_
        intro w51 hb
        clear gz gm gs
        clear xz yz zz vz xm ym zm vm xs ys zs vs
        replace Bz := Bz.ext hb rfl
        replace Bm := Bm.ext hb rfl
        replace Bs := Bs.ext hb rfl
        replace hw := hw.trans (hb.mono hw.size)
        obtain ⟨xz, yz, zz, vz⟩ := Bz.facts
        obtain ⟨xm, ym, zm, vm⟩ := Bm.facts
        obtain ⟨xs, ys, zs, vs⟩ := Bs.facts
        go_wp2_with fail
        go_roundw
        case rel => exact ⟨2, m, by omega, by omega, rfl, Lib.hid (by rw [Q.out, eL.out]), hw, Bz, Bm, Bs⟩
        case measure => simp [intOf]
    · have e1 : minTo a b c d 2 = m := hm.out.symm
      have Q : Hid (minTo a b c d 3 = lsr c m) := Lib.hid (by rw [← e1]; rfl)
      clear e1 hm
      have cm := cmp_pt c m
      obtain ⟨xz, yz, zz, vz⟩ := Bz.facts
      obtain ⟨xm, ym, zm, vm⟩ := Bm.facts
      obtain ⟨xs, ys, zs, vs⟩ := Bs.facts
      by_cases hc : cmpP c m < 0
      · have eL : Hid (lsr c m = c) := Lib.hid (by unfold lsr; rw [if_pos hc])
        have hd : decide (cmpP c m < 0) = true := by simpa using hc
        have nbm : ¬ bk = w.heap.size + 1 := by omega
        go_wp2_with fail
        have gz := Bz.cells
        have gm := Bm.cells
        have gs := Bs.cells
        refine wp_region_tail 7 (by kernel_rfl) (by kernel_rfl) (C := fun w' => ∃ p : Regrown, w' = grow (redrawn wr p.d) p.os) (fun w' h => regrown_of_below h) ?_
        simp only [List.take_succ_cons, List.take_zero, List.drop_succ_cons, List.drop_zero]
        repeat (first | (refine rWalk_skip (Eq.refl false) ?_; simp only [Act.put, List.setIfInBounds_toArray, List.set_cons_succ, List.set_cons_zero]) | (refine rWalk_step (fun K hK => ?_); go_simp; first | (refine hK _ ?_; clear hK K) | (apply Exists.intro; refine ⟨fun _ => ?_, hK _ ?_⟩; (first | with_reducible exact toExt cm _); clear hK K)))
        refine rWalk_nil ?_
        intro w51 hb
        clear gz gm gs
        clear xz yz zz vz xm ym zm vm xs ys zs vs
        replace Bz := Bz.ext hb rfl
        replace Bm := Bm.ext hb rfl
        replace Bs := Bs.ext hb rfl
        replace hw := hw.trans (hb.mono hw.size)
        obtain ⟨xz, yz, zz, vz⟩ := Bz.facts
        obtain ⟨xm, ym, zm, vm⟩ := Bm.facts
        obtain ⟨xs, ys, zs, vs⟩ := Bs.facts
        go_wp2_with fail
        go_roundw
        case rel =>
          exact ⟨3, c, by omega, by omega, rfl, Lib.hid (by rw [Q.out, eL.out]), by go_grown, (Bz.set_ne _ _ (by simp)).set_ne _ _ (by simp), (Bm.set 0 (.int .i64 c.x)).set 1 (.int .i64 c.y), (Bs.set_ne _ _ (by simp; omega)).set_ne _ _ (by simp; omega)⟩
        case measure => simp [intOf]
      · have eL : Hid (lsr c m = m) := Lib.hid (by unfold lsr; rw [if_neg hc])
        have hd : decide (cmpP c m < 0) = false := by simpa using hc
        go_wp2_with fail
        have gz := Bz.cells
        have gm := Bm.cells
        have gs := Bs.cells
        refine wp_region_tail 7 (by kernel_rfl) (by kernel_rfl) (C := fun w' => ∃ p : Regrown, w' = grow (redrawn wr p.d) p.os) (fun w' h => regrown_of_below h) ?_
        simp only [List.take_succ_cons, List.take_zero, List.drop_succ_cons, List.drop_zero]
        repeat (first | (refine rWalk_skip (Eq.refl false) ?_; simp only [Act.put, List.setIfInBounds_toArray, List.set_cons_succ, List.set_cons_zero]) | (refine rWalk_step (fun K hK => ?_); go_simp; first | (refine hK _ ?_; clear hK K) | (apply Exists.intro; refine ⟨fun _ => ?_, hK _ ?_⟩; (first | with_reducible exact toExt cm _); clear hK K)))
        refine rWalk_nil ?_
        intro w51 hb
        clear gz gm gs
        clear xz yz zz vz xm ym zm vm xs ys zs vs
        replace Bz := Bz.ext hb rfl
        replace Bm := Bm.ext hb rfl
        replace Bs := Bs.ext hb rfl
        replace hw := hw.trans (hb.mono hw.size)
        obtain ⟨xz, yz, zz, vz⟩ := Bz.facts
        obtain ⟨xm, ym, zm, vm⟩ := Bm.facts
        obtain ⟨xs, ys, zs, vs⟩ := Bs.facts
        go_wp2_with fail
        go_roundw
        case rel => exact ⟨3, m, by omega, by omega, rfl, Lib.hid (by rw [Q.out, eL.out]), hw, Bz, Bm, Bs⟩
        case measure => simp [intOf]
    · have e1 : minTo a b c d 3 = m := hm.out.symm
      have Q : Hid (minTo a b c d 4 = lsr d m) := Lib.hid (by rw [← e1]; rfl)
      clear e1 hm
      have cm := cmp_pt d m
      obtain ⟨xz, yz, zz, vz⟩ := Bz.facts
      obtain ⟨xm, ym, zm, vm⟩ := Bm.facts
      obtain ⟨xs, ys, zs, vs⟩ := Bs.facts
      by_cases hc : cmpP d m < 0
      · have eL : Hid (lsr d m = d) := Lib.hid (by unfold lsr; rw [if_pos hc])
        have hd : decide (cmpP d m < 0) = true := by simpa using hc
        have nbm : ¬ bk = w.heap.size + 1 := by omega
        go_wp2_with fail
        have gz := Bz.cells
        have gm := Bm.cells
        have gs := Bs.cells
        refine wp_region_tail 7 (by kernel_rfl) (by kernel_rfl) (C := fun w' => ∃ p : Regrown, w' = grow (redrawn wr p.d) p.os) (fun w' h => regrown_of_below h) ?_
        simp only [List.take_succ_cons, List.take_zero, List.drop_succ_cons, List.drop_zero]
        repeat (first | (refine rWalk_skip (Eq.refl false) ?_; simp only [Act.put, List.setIfInBounds_toArray, List.set_cons_succ, List.set_cons_zero]) | (refine rWalk_step (fun K hK => ?_); go_simp; first | (refine hK _ ?_; clear hK K) | (apply Exists.intro; refine ⟨fun _ => ?_, hK _ ?_⟩; (first | with_reducible exact toExt cm _); clear hK K)))
        refine rWalk_nil ?_
        intro w51 hb
        clear gz gm gs
        clear xz yz zz vz xm ym zm vm xs ys zs vs
        replace Bz := Bz.ext hb rfl
        replace Bm := Bm.ext hb rfl
        replace Bs := Bs.ext hb rfl
        replace hw := hw.trans (hb.mono hw.size)
        obtain ⟨xz, yz, zz, vz⟩ := Bz.facts
        obtain ⟨xm, ym, zm, vm⟩ := Bm.facts
        obtain ⟨xs, ys, zs, vs⟩ := Bs.facts
        go_wp2_with fail
        go_roundw
        case rel =>
          exact ⟨4, d, by omega, by omega, rfl, Lib.hid (by rw [Q.out, eL.out]), by go_grown, (Bz.set_ne _ _ (by simp)).set_ne _ _ (by simp), (Bm.set 0 (.int .i64 d.x)).set 1 (.int .i64 d.y), (Bs.set_ne _ _ (by simp; omega)).set_ne _ _ (by simp; omega)⟩
        case measure => simp [intOf]
      · have eL : Hid (lsr d m = m) := Lib.hid (by unfold lsr; rw [if_neg hc])
        have hd : decide (cmpP d m < 0) = false := by simpa using hc
        go_wp2_with fail
        have gz := Bz.cells
        have gm := Bm.cells
        have gs := Bs.cells
        refine wp_region_tail 7 (by kernel_rfl) (by kernel_rfl) (C := fun w' => ∃ p : Regrown, w' = grow (redrawn wr p.d) p.os) (fun w' h => regrown_of_below h) ?_
        simp only [List.take_succ_cons, List.take_zero, List.drop_succ_cons, List.drop_zero]
        repeat (first | (refine rWalk_skip (Eq.refl false) ?_; simp only [Act.put, List.setIfInBounds_toArray, List.set_cons_succ, List.set_cons_zero]) | (refine rWalk_step (fun K hK => ?_); go_simp; first | (refine hK _ ?_; clear hK K) | (apply Exists.intro; refine ⟨fun _ => ?_, hK _ ?_⟩; (first | with_reducible exact toExt cm _); clear hK K)))
        refine rWalk_nil ?_
        intro w51 hb
        clear gz gm gs
        clear xz yz zz vz xm ym zm vm xs ys zs vs
        replace Bz := Bz.ext hb rfl
        replace Bm := Bm.ext hb rfl
        replace Bs := Bs.ext hb rfl
        replace hw := hw.trans (hb.mono hw.size)
        obtain ⟨xz, yz, zz, vz⟩ := Bz.facts
        obtain ⟨xm, ym, zm, vm⟩ := Bm.facts
        obtain ⟨xs, ys, zs, vs⟩ := Bs.facts
        go_wp2_with fail
        go_roundw
        case rel => exact ⟨4, m, by omega, by omega, rfl, Lib.hid (by rw [Q.out, eL.out]), hw, Bz, Bm, Bs⟩
        case measure => simp [intOf]
    · have e1 : min4 a b c d = m := hm.out.symm
      have E := Lib.hid e1
      clear e1 hm
      obtain ⟨xz, yz, zz, vz⟩ := Bz.facts
      obtain ⟨xm, ym, zm, vm⟩ := Bm.facts
      go_wp2_with fail
      refine bodyPost_ret (v := .agg #[.int .i64 m.x, .int .i64 m.y]) (by simp [results, Try.results33, go_sem, xz]) rfl ⟨by rw [E.out], by go_grown⟩

end Go.Proofs.Ytmdehannbbpnaaa
