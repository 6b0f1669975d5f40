/- The contract of exact.lifted: on which side of a circle, as a determinant. -/
import Derived.Test.YtmdehannbbpnaaaRows
import Derived.Test.YtmdehannbbpnaaaExC
import Derived.Test.YtmdehannbbpnaaaPost
import Derived.Test.YtmdehannbbpnaaaMany
import Derived.Test.YtmdehannbbpnaaaLate
import Derived.Test.YtmdehannbbpnaaaSlip
import Derived.Test.YtmdehannbbpnaaaWideH
import Derived.WalkKit
import Derived.WalkSpells
import Derived.WalkLawsBesides
import Derived.Laws.Externs
import Derived.Deep.QuietTactic
import Derived.BigQuiet
import Derived.Lib.Hide
import Derived.Handy
namespace Go.Proofs.Ytmdehannbbpnaaa
open Go.RowKit Go.Sort
attribute [local go_sem] rOper rAt rUpon cell_set sg_i64 sg_u64 alloc_cell alloc_frozen
attribute [local go_sem 10000] pt_eql pt_neq
attribute [local irreducible] rWalk

/-- The determinant of three points with their heights, as seen from the fourth. -/
def lft (a b c d : Pt) : Int := ht (way d a) * cr (way d b) (way d c) + ht (way d b) * cr (way d c) (way d a) + ht (way d c) * cr (way d a) (way d b)
theorem big_mul {p q : Int} (hp : 0 ≤ p ∧ p ≤ 562949886312450) (hq : -562949886312450 ≤ q ∧ q ≤ 562949886312450) : -316912574500061154317695502500 ≤ p * q ∧ p * q ≤ 316912574500061154317695502500 := by
  have h1 : p.natAbs ≤ 562949886312450 := by omega
  have h2 : q.natAbs ≤ 562949886312450 := by omega
  have h3 := Nat.mul_le_mul h1 h2
  rw [← Int.natAbs_mul] at h3
  generalize p * q = r at *
  omega
set_option maxHeartbeats 1000000 in
theorem lifted_any (a b c d : Pt) (ha : vld a = true) (hb : vld b = true) (hc : vld c = true) (hd : vld d = true) (w : World) :
    Calls Try.prog 32 #[.agg #[.int .i64 a.x, .int .i64 a.y], .agg #[.int .i64 b.x, .int .i64 b.y], .agg #[.int .i64 c.x, .int .i64 c.y], .agg #[.int .i64 d.x, .int .i64 d.y]] w fun e w' => e = .returned (.int .i64 (sgn (lft a b c d))) ∧ Below w.heap.size w w' := by
  have d1 := away_any d a hd ha
  have d2 := away_any d b hd hb
  have d3 := away_any d c hd hc
  have su := way_sm hd ha
  have sv := way_sm hd hb
  have sz := way_sm hd hc
  have e0 : lft a b c d = ht (way d a) * cr (way d b) (way d c) + ht (way d b) * cr (way d c) (way d a) + ht (way d c) * cr (way d a) (way d b) := rfl
  rw [e0]
  clear e0 ha hb hc hd
  generalize way d a = u at *
  generalize way d b = v at *
  generalize way d c = z at *
  have h1 := height_any u su
  have h2 := height_any v sv
  have h3 := height_any z sz
  have x1 := cross_any v z sv sz
  have x2 := cross_any z u sz su
  have x3 := cross_any u v su sv
  have bu := ht_bd su
  have bv := ht_bd sv
  have bz := ht_bd sz
  have k1 := cr_bd sv sz
  have k2 := cr_bd sz su
  have k3 := cr_bd su sv
  have m1 := mul_any (ht u) (cr v z) (by omega) (by omega) (by omega) (by omega)
  have m2 := mul_any (ht v) (cr z u) (by omega) (by omega) (by omega) (by omega)
  have m3 := mul_any (ht z) (cr u v) (by omega) (by omega) (by omega) (by omega)
  have p1 := big_mul bu k1
  have p2 := big_mul bv k2
  have p3 := big_mul bz k3
  clear su sv sz bu bv bz k1 k2 k3
  generalize ht u * cr v z = P1 at *
  generalize ht v * cr z u = P2 at *
  generalize ht z * cr u v = P3 at *
  have s1 := add_any (cH P1) (cL P1) (cH P2) (cL P2) (ok_c _) (ok_c _)
  rw [V_c (fits_iff.2 ⟨by omega, by omega⟩), V_c (fits_iff.2 ⟨by omega, by omega⟩)] at s1
  have s2 := add_any (cH (P1 + P2)) (cL (P1 + P2)) (cH P3) (cL P3) (ok_c _) (ok_c _)
  rw [V_c (fits_iff.2 ⟨by omega, by omega⟩), V_c (fits_iff.2 ⟨by omega, by omega⟩)] at s2
  have s3 := sign_any (cH (P1 + P2 + P3)) (cL (P1 + P2 + P3)) (ok_c _)
  rw [V_c (fits_iff.2 ⟨by omega, by omega⟩)] at s3
  clear p1 p2 p3
  generalize cH (P1 + P2 + P3) = H3 at *
  generalize cL (P1 + P2 + P3) = L3 at *
  generalize fits (P1 + P2 + P3) = F3 at *
  generalize P1 + P2 + P3 = P6 at *
  generalize cH (P1 + P2) = H2 at *
  generalize cL (P1 + P2) = L2 at *
  generalize fits (P1 + P2) = F2 at *
  generalize cH P1 = H0 at *
  generalize cL P1 = L0 at *
  generalize cH P2 = H1 at *
  generalize cL P2 = L1 at *
  generalize cH P3 = H4 at *
  generalize cL P3 = L4 at *
  generalize cr v z = X1 at *
  generalize cr z u = X2 at *
  generalize cr u v = X3 at *
  generalize ht u = Y1 at *
  generalize ht v = Y2 at *
  generalize ht z = Y3 at *
  go_enter Try.func32, Try.ntmps32
  go_wp2_with fail
  refine at_world fun W1 hW => ?_
  have Ba : Box W1 (w.heap.size) [.int .i64 a.x, .int .i64 a.y] 23 := by rw [hW]; exact (((Box.new rfl).old _).old _).old _
  have Bb : Box W1 (w.heap.size + 1) [.int .i64 b.x, .int .i64 b.y] 23 := by rw [hW]; exact ((Box.new (by simp)).old _).old _
  have Bc : Box W1 (w.heap.size + 1 + 1) [.int .i64 c.x, .int .i64 c.y] 23 := by rw [hW]; exact (Box.new (by simp)).old _
  have Bd : Box W1 (w.heap.size + 1 + 1 + 1) [.int .i64 d.x, .int .i64 d.y] 23 := by rw [hW]; exact Box.new (by simp)
  have hw : Below w.heap.size w W1 := by rw [hW]; go_grown
  clear hW
  have ga := Ba.cells
  have gb := Bb.cells
  have gc := Bc.cells
  have gd := Bd.cells
  refine wp_region_many 12 [⟨9, 9, 23, [.int .i64 0, .int .i64 0]⟩, ⟨10, 10, 23, [.int .i64 0, .int .i64 0]⟩, ⟨11, 11, 23, [.int .i64 0, .int .i64 0]⟩] ?_ (by kernel_rfl) (by decide) (by decide) (by kernel_rfl) (by decide) (C := fun w' => ∃ p : Regrown, w' = grow (redrawn W1 p.d) p.os) (fun w' h => regrown_of_below h) ?_
  · simp only [List.forall_mem_cons]
    refine ⟨⟨_, rfl, rfl, rfl, rfl, fun ρ W => by simp [execOp, go_sem]⟩, ⟨_, rfl, rfl, rfl, rfl, fun ρ W => by simp [execOp, go_sem]⟩, ⟨_, rfl, rfl, rfl, rfl, fun ρ W => by simp [execOp, go_sem]⟩, fun _ h => (by cases h)⟩
  simp only [List.take_succ_cons, List.take_zero, List.map_cons, List.map_nil, dropIdx, List.contains_cons, List.contains_nil, Nat.reduceBEq, Nat.reduceAdd, Bool.or_false, Bool.or_true, Bool.or_self, Bool.false_eq_true, if_true, if_false]
  repeat (first | (refine rWalk_skip (Eq.refl false) ?_; simp only [Act.put, List.setIfInBounds_toArray, List.set_cons_succ, List.set_cons_zero]) | (refine rWalk_step (fun K hK => ?_); go_simp; first | (refine hK _ ?_; clear hK K) | (apply Exists.intro; refine ⟨fun _ => ?_, hK _ ?_⟩; (first | with_reducible exact toExt d1 _ | with_reducible exact toExt d2 _ | with_reducible exact toExt d3 _); clear hK K)))
  refine rWalk_nil ?_
  intro w2 β hL
  simp only [putD, List.drop_succ_cons, List.drop_zero]
  have qu := hL.box ⟨9, 9, 23, [.int .i64 0, .int .i64 0]⟩ (by simp) (by simp)
  simp only at qu
  have qv := hL.box ⟨10, 10, 23, [.int .i64 0, .int .i64 0]⟩ (by simp) (by simp)
  simp only at qv
  have qz := hL.box ⟨11, 11, 23, [.int .i64 0, .int .i64 0]⟩ (by simp) (by simp)
  simp only at qz
  have nuv := hL.apart 9 (by simp) 10 (by simp) (by decide)
  have nuz := hL.apart 9 (by simp) 11 (by simp) (by decide)
  have nvu := hL.apart 10 (by simp) 9 (by simp) (by decide)
  have nvz := hL.apart 10 (by simp) 11 (by simp) (by decide)
  have nzu := hL.apart 11 (by simp) 9 (by simp) (by decide)
  have nzv := hL.apart 11 (by simp) 10 (by simp) (by decide)
  have hb := hL.below
  have la := Ba.lt
  have lb := Bb.lt
  have lc := Bc.lt
  have ld := Bd.lt
  clear ga gb gc gd
  replace Ba := Ba.ext hb rfl
  replace Bb := Bb.ext hb rfl
  replace Bc := Bc.ext hb rfl
  replace Bd := Bd.ext hb rfl
  have hw0 := hw.size
  replace hw := hw.trans (hb.mono hw.size)
  clear hb hL
  generalize β 9 = bku at *
  generalize β 10 = bkv at *
  generalize β 11 = bkz at *
  clear β
  obtain ⟨fu, Bu⟩ := qu
  obtain ⟨fv, Bv⟩ := qv
  obtain ⟨fz, Bz⟩ := qz
  simp only [Act.put]
  obtain ⟨xu, yu, zu, vu⟩ := Bu.facts
  obtain ⟨xv, yv, zv, vv⟩ := Bv.facts
  obtain ⟨xz, yz, zz, vz⟩ := Bz.facts
  go_wp2_with fail
  refine at_world fun W3 hW => ?_
  have Ca : Box W3 (w.heap.size) [.int .i64 a.x, .int .i64 a.y] 23 := by rw [hW]; exact ((((((Ba.set_ne ⟨bku, 0, none⟩ (.int .i64 u.x) (by first | assumption | (show bku ≠ _; omega))).set_ne ⟨bku, 1, none⟩ (.int .i64 u.y) (by first | assumption | (show bku ≠ _; omega))).set_ne ⟨bkv, 0, none⟩ (.int .i64 v.x) (by first | assumption | (show bkv ≠ _; omega))).set_ne ⟨bkv, 1, none⟩ (.int .i64 v.y) (by first | assumption | (show bkv ≠ _; omega))).set_ne ⟨bkz, 0, none⟩ (.int .i64 z.x) (by first | assumption | (show bkz ≠ _; omega))).set_ne ⟨bkz, 1, none⟩ (.int .i64 z.y) (by first | assumption | (show bkz ≠ _; omega)))
  have Cb : Box W3 (w.heap.size + 1) [.int .i64 b.x, .int .i64 b.y] 23 := by rw [hW]; exact ((((((Bb.set_ne ⟨bku, 0, none⟩ (.int .i64 u.x) (by first | assumption | (show bku ≠ _; omega))).set_ne ⟨bku, 1, none⟩ (.int .i64 u.y) (by first | assumption | (show bku ≠ _; omega))).set_ne ⟨bkv, 0, none⟩ (.int .i64 v.x) (by first | assumption | (show bkv ≠ _; omega))).set_ne ⟨bkv, 1, none⟩ (.int .i64 v.y) (by first | assumption | (show bkv ≠ _; omega))).set_ne ⟨bkz, 0, none⟩ (.int .i64 z.x) (by first | assumption | (show bkz ≠ _; omega))).set_ne ⟨bkz, 1, none⟩ (.int .i64 z.y) (by first | assumption | (show bkz ≠ _; omega)))
  have Cc : Box W3 (w.heap.size + 1 + 1) [.int .i64 c.x, .int .i64 c.y] 23 := by rw [hW]; exact ((((((Bc.set_ne ⟨bku, 0, none⟩ (.int .i64 u.x) (by first | assumption | (show bku ≠ _; omega))).set_ne ⟨bku, 1, none⟩ (.int .i64 u.y) (by first | assumption | (show bku ≠ _; omega))).set_ne ⟨bkv, 0, none⟩ (.int .i64 v.x) (by first | assumption | (show bkv ≠ _; omega))).set_ne ⟨bkv, 1, none⟩ (.int .i64 v.y) (by first | assumption | (show bkv ≠ _; omega))).set_ne ⟨bkz, 0, none⟩ (.int .i64 z.x) (by first | assumption | (show bkz ≠ _; omega))).set_ne ⟨bkz, 1, none⟩ (.int .i64 z.y) (by first | assumption | (show bkz ≠ _; omega)))
  have Cd : Box W3 (w.heap.size + 1 + 1 + 1) [.int .i64 d.x, .int .i64 d.y] 23 := by rw [hW]; exact ((((((Bd.set_ne ⟨bku, 0, none⟩ (.int .i64 u.x) (by first | assumption | (show bku ≠ _; omega))).set_ne ⟨bku, 1, none⟩ (.int .i64 u.y) (by first | assumption | (show bku ≠ _; omega))).set_ne ⟨bkv, 0, none⟩ (.int .i64 v.x) (by first | assumption | (show bkv ≠ _; omega))).set_ne ⟨bkv, 1, none⟩ (.int .i64 v.y) (by first | assumption | (show bkv ≠ _; omega))).set_ne ⟨bkz, 0, none⟩ (.int .i64 z.x) (by first | assumption | (show bkz ≠ _; omega))).set_ne ⟨bkz, 1, none⟩ (.int .i64 z.y) (by first | assumption | (show bkz ≠ _; omega)))
  have Cu : Box W3 (bku) [.int .i64 u.x, .int .i64 u.y] 23 := by rw [hW]; exact ((((((Bu.set 0 (.int .i64 u.x)).set 1 (.int .i64 u.y)).set_ne ⟨bkv, 0, none⟩ (.int .i64 v.x) (by first | assumption | (show bkv ≠ _; omega))).set_ne ⟨bkv, 1, none⟩ (.int .i64 v.y) (by first | assumption | (show bkv ≠ _; omega))).set_ne ⟨bkz, 0, none⟩ (.int .i64 z.x) (by first | assumption | (show bkz ≠ _; omega))).set_ne ⟨bkz, 1, none⟩ (.int .i64 z.y) (by first | assumption | (show bkz ≠ _; omega)))
  have Cv : Box W3 (bkv) [.int .i64 v.x, .int .i64 v.y] 23 := by rw [hW]; exact ((((((Bv.set_ne ⟨bku, 0, none⟩ (.int .i64 u.x) (by first | assumption | (show bku ≠ _; omega))).set_ne ⟨bku, 1, none⟩ (.int .i64 u.y) (by first | assumption | (show bku ≠ _; omega))).set 0 (.int .i64 v.x)).set 1 (.int .i64 v.y)).set_ne ⟨bkz, 0, none⟩ (.int .i64 z.x) (by first | assumption | (show bkz ≠ _; omega))).set_ne ⟨bkz, 1, none⟩ (.int .i64 z.y) (by first | assumption | (show bkz ≠ _; omega)))
  have Cz : Box W3 (bkz) [.int .i64 z.x, .int .i64 z.y] 23 := by rw [hW]; exact ((((((Bz.set_ne ⟨bku, 0, none⟩ (.int .i64 u.x) (by first | assumption | (show bku ≠ _; omega))).set_ne ⟨bku, 1, none⟩ (.int .i64 u.y) (by first | assumption | (show bku ≠ _; omega))).set_ne ⟨bkv, 0, none⟩ (.int .i64 v.x) (by first | assumption | (show bkv ≠ _; omega))).set_ne ⟨bkv, 1, none⟩ (.int .i64 v.y) (by first | assumption | (show bkv ≠ _; omega))).set 0 (.int .i64 z.x)).set 1 (.int .i64 z.y))
  replace hw : Below w.heap.size w W3 := by have hl := hw.size; rw [hW]; go_grown
  clear xu yu zu vu xv yv zv vv xz yz zz vz
  clear hW Ba Bb Bc Bd Bu Bv Bz
  have Ba := Ca
  have Bb := Cb
  have Bc := Cc
  have Bd := Cd
  have Bu := Cu
  have Bv := Cv
  have Bz := Cz
  clear Ca Cb Cc Cd Cu Cv Cz
  have ga := Ba.cells
  have gb := Bb.cells
  have gc := Bc.cells
  have gd := Bd.cells
  have gu := Bu.cells
  have gv := Bv.cells
  have gz := Bz.cells
  refine wp_region_late2 16 12 37 (.int .i64 H2) (.int .u64 L2) rfl rfl rfl rfl rfl rfl rfl (by simp) (fun ρ W => by simp [execOp, go_sem]; rfl) (by kernel_rfl) (by kernel_rfl) (C := fun w' => ∃ p : Regrown, w' = grow (redrawn W3 p.d) p.os) (fun w' h => regrown_of_below h) ?_ (fun ρ W b e1 e2 hB => by obtain ⟨x, y, _, _⟩ := hB.facts; simp [execOp, go_sem, e1, e2, x, y, eff2])
  simp only [List.take_succ_cons, List.take_zero, List.drop_succ_cons, List.drop_zero]
  repeat (first | (refine rWalk_skip (Eq.refl false) ?_; simp only [Act.put, List.setIfInBounds_toArray, List.set_cons_succ, List.set_cons_zero]) | (refine rWalk_step (fun K hK => ?_); go_simp; first | (refine hK _ ?_; clear hK K) | (apply Exists.intro; refine ⟨fun _ => ?_, hK _ ?_⟩; (first | with_reducible exact toExt h1 _ | with_reducible exact toExt h2 _ | with_reducible exact toExt x1 _ | with_reducible exact toExt x2 _ | with_reducible exact toExt m1 _ | with_reducible exact toExt m2 _ | with_reducible exact toExt s1 _); clear hK K)))
  refine rWalk_nil ⟨rfl, ?_⟩
  intro w4 bks hb h1b h2b Bs
  have las := Ba.lt
  have lbs := Bb.lt
  have lcs := Bc.lt
  have lds := Bd.lt
  have lus := Bu.lt
  have lvs := Bv.lt
  have lzs := Bz.lt
  have hw0z := hw.size
  clear ga gb gc gd gu gv gz
  replace Ba := Ba.ext hb rfl
  replace Bb := Bb.ext hb rfl
  replace Bc := Bc.ext hb rfl
  replace Bd := Bd.ext hb rfl
  replace Bu := Bu.ext hb rfl
  replace Bv := Bv.ext hb rfl
  replace Bz := Bz.ext hb rfl
  replace hw := hw.trans (hb.mono hw.size)
  have fs := h1b
  have hwz : w.heap.size ≤ W3.heap.size := hw0z
  clear hb h1b h2b hw0z
  simp only [Act.put]
  go_wp2_with fail
  refine at_world fun W9 hW => ?_
  replace Ba : Box W9 (w.heap.size) [.int .i64 a.x, .int .i64 a.y] 23 := by rw [hW]; exact Ba
  replace Bb : Box W9 (w.heap.size + 1) [.int .i64 b.x, .int .i64 b.y] 23 := by rw [hW]; exact Bb
  replace Bc : Box W9 (w.heap.size + 1 + 1) [.int .i64 c.x, .int .i64 c.y] 23 := by rw [hW]; exact Bc
  replace Bd : Box W9 (w.heap.size + 1 + 1 + 1) [.int .i64 d.x, .int .i64 d.y] 23 := by rw [hW]; exact Bd
  replace Bu : Box W9 (bku) [.int .i64 u.x, .int .i64 u.y] 23 := by rw [hW]; exact Bu
  replace Bv : Box W9 (bkv) [.int .i64 v.x, .int .i64 v.y] 23 := by rw [hW]; exact Bv
  replace Bz : Box W9 (bkz) [.int .i64 z.x, .int .i64 z.y] 23 := by rw [hW]; exact Bz
  replace Bs : Box W9 (bks) [.int .i64 H2, .int .u64 L2] 54 := by rw [hW]; exact Bs
  replace hw : Below w.heap.size w W9 := by rw [hW]; exact hw
  clear hW
  have ga := Ba.cells
  have gb := Bb.cells
  have gc := Bc.cells
  have gd := Bd.cells
  have gu := Bu.cells
  have gv := Bv.cells
  have gz := Bz.cells
  have gs := Bs.cells
  refine wp_region_slip 8 2 (by kernel_rfl) (by kernel_rfl) (fun d _ _ _ _ h => by cases d <;> exact h) (C := fun w' => ∃ p : Regrown, w' = grow (redrawn W9 p.d) p.os) (fun w' h => regrown_of_below h) ?_
  simp only [List.take_succ_cons, List.take_zero, List.drop_succ_cons, List.drop_zero]
  repeat (first | (refine rWalk_skip (Eq.refl false) ?_; simp only [Act.put, List.setIfInBounds_toArray, List.set_cons_succ, List.set_cons_zero]) | (refine rWalk_step (fun K hK => ?_); go_simp; first | (refine hK _ ?_; clear hK K) | (apply Exists.intro; refine ⟨fun _ => ?_, hK _ ?_⟩; (first | with_reducible exact toExt h3 _ | with_reducible exact toExt x3 _ | with_reducible exact toExt m3 _ | with_reducible exact toExt s2 _); clear hK K)))
  refine rWalk_nil ?_
  intro w5 hb
  refine ⟨_, Or.inl ⟨rfl, fun _ => rfl⟩, ?_⟩
  refine ⟨_, Or.inl ⟨rfl, fun _ => rfl⟩, ?_⟩
  simp only [slipWalk, Act.put, List.setIfInBounds_toArray, List.set_cons_succ, List.set_cons_zero]
  clear ga gb gc gd gu gv gz gs
  replace Ba := Ba.ext hb rfl
  replace Bb := Bb.ext hb rfl
  replace Bc := Bc.ext hb rfl
  replace Bd := Bd.ext hb rfl
  replace Bu := Bu.ext hb rfl
  replace Bv := Bv.ext hb rfl
  replace Bz := Bz.ext hb rfl
  replace Bs := Bs.ext hb rfl
  replace hw := hw.trans (hb.mono hw.size)
  obtain ⟨xa, ya, za, va⟩ := Ba.facts
  obtain ⟨xb, yb, zb, vb⟩ := Bb.facts
  obtain ⟨xc, yc, zc, vc⟩ := Bc.facts
  obtain ⟨xd, yd, zd, vd⟩ := Bd.facts
  obtain ⟨xu, yu, zu, vu⟩ := Bu.facts
  obtain ⟨xv, yv, zv, vv⟩ := Bv.facts
  obtain ⟨xz, yz, zz, vz⟩ := Bz.facts
  obtain ⟨xs, ys, zs, vs⟩ := Bs.facts
  go_wp2_with fail
  refine at_call fun W6 hW => ?_
  have Ca : Box W6 (w.heap.size) [.int .i64 a.x, .int .i64 a.y] 23 := by rw [hW]; exact ((Ba.set_ne ⟨bks, 0, none⟩ (.int .i64 H3) (by first | assumption | (show bks ≠ _; omega))).set_ne ⟨bks, 1, none⟩ (.int .u64 L3) (by first | assumption | (show bks ≠ _; omega)))
  have Cb : Box W6 (w.heap.size + 1) [.int .i64 b.x, .int .i64 b.y] 23 := by rw [hW]; exact ((Bb.set_ne ⟨bks, 0, none⟩ (.int .i64 H3) (by first | assumption | (show bks ≠ _; omega))).set_ne ⟨bks, 1, none⟩ (.int .u64 L3) (by first | assumption | (show bks ≠ _; omega)))
  have Cc : Box W6 (w.heap.size + 1 + 1) [.int .i64 c.x, .int .i64 c.y] 23 := by rw [hW]; exact ((Bc.set_ne ⟨bks, 0, none⟩ (.int .i64 H3) (by first | assumption | (show bks ≠ _; omega))).set_ne ⟨bks, 1, none⟩ (.int .u64 L3) (by first | assumption | (show bks ≠ _; omega)))
  have Cd : Box W6 (w.heap.size + 1 + 1 + 1) [.int .i64 d.x, .int .i64 d.y] 23 := by rw [hW]; exact ((Bd.set_ne ⟨bks, 0, none⟩ (.int .i64 H3) (by first | assumption | (show bks ≠ _; omega))).set_ne ⟨bks, 1, none⟩ (.int .u64 L3) (by first | assumption | (show bks ≠ _; omega)))
  have Cu : Box W6 (bku) [.int .i64 u.x, .int .i64 u.y] 23 := by rw [hW]; exact ((Bu.set_ne ⟨bks, 0, none⟩ (.int .i64 H3) (by first | assumption | (show bks ≠ _; omega))).set_ne ⟨bks, 1, none⟩ (.int .u64 L3) (by first | assumption | (show bks ≠ _; omega)))
  have Cv : Box W6 (bkv) [.int .i64 v.x, .int .i64 v.y] 23 := by rw [hW]; exact ((Bv.set_ne ⟨bks, 0, none⟩ (.int .i64 H3) (by first | assumption | (show bks ≠ _; omega))).set_ne ⟨bks, 1, none⟩ (.int .u64 L3) (by first | assumption | (show bks ≠ _; omega)))
  have Cz : Box W6 (bkz) [.int .i64 z.x, .int .i64 z.y] 23 := by rw [hW]; exact ((Bz.set_ne ⟨bks, 0, none⟩ (.int .i64 H3) (by first | assumption | (show bks ≠ _; omega))).set_ne ⟨bks, 1, none⟩ (.int .u64 L3) (by first | assumption | (show bks ≠ _; omega)))
  have Cs : Box W6 (bks) [.int .i64 H3, .int .u64 L3] 54 := by rw [hW]; exact ((Bs.set 0 (.int .i64 H3)).set 1 (.int .u64 L3))
  replace hw : Below w.heap.size w W6 := by have hl := hw.size; rw [hW]; go_grown
  clear xa ya za va xb yb zb vb xc yc zc vc xd yd zd vd xu yu zu vu xv yv zv vv xz yz zz vz xs ys zs vs
  clear hW Ba Bb Bc Bd Bu Bv Bz Bs
  have Ba := Ca
  have Bb := Cb
  have Bc := Cc
  have Bd := Cd
  have Bu := Cu
  have Bv := Cv
  have Bz := Cz
  have Bs := Cs
  clear Ca Cb Cc Cd Cu Cv Cz Cs
  refine (s3 _).mono ?_
  rintro e w7 ⟨rfl, hb⟩
  replace Ba := Ba.ext hb rfl
  replace Bb := Bb.ext hb rfl
  replace Bc := Bc.ext hb rfl
  replace Bd := Bd.ext hb rfl
  replace Bu := Bu.ext hb rfl
  replace Bv := Bv.ext hb rfl
  replace Bz := Bz.ext hb rfl
  replace Bs := Bs.ext hb rfl
  replace hw := hw.trans (hb.mono hw.size)
  clear hb
  go_wp2
  go_ret
  exact ⟨rfl, hw⟩

end Go.Proofs.Ytmdehannbbpnaaa
