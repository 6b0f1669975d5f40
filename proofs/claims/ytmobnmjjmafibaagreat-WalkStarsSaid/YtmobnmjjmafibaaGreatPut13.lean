/- Put together: CdtP, CdtQ, Blt6, Trod, RowI, WlkA, WlkB, WlkC, CdtS, WlkP, WlkQ, WlkR. -/
import Derived.Test.YtmobnmjjmafibaaGreatRows
import Derived.Test.YtmobnmjjmafibaaGreatPut5
import Derived.Test.YtmobnmjjmafibaaGreatPut12
import Derived.Test.YtmobnmjjmafibaaGreatPut8
import Derived.Test.YtmobnmjjmafibaaGreatPut0
import Derived.WalkKit
import Derived.WalkSpells
import Derived.WalkLawsBesides
import Derived.Laws.Externs
import Derived.Deep.QuietTactic
import Derived.BigQuiet
import Derived.Lib.Hide
import Derived.Handy
import Derived.OwnWalk
import Derived.LoopN
import Derived.RegionTactic
import Derived.Test.YtmobnmjjmafibaaGreatPut6
import Derived.Test.YtmobnmjjmafibaaGreatPut9
import Derived.Carry
import Derived.ProofKit
import Derived.Lib.SmallJoins
import Derived.Deep.Slices
import Derived.Maps.RangeWalk
import Derived.Test.YtmobnmjjmafibaaGreatPut11
set_option maxRecDepth 100000
set_option maxHeartbeats 8000000
namespace Go.Proofs.YtmobnmjjmafibaaGreat
open Go.RowKit Go.Sort
attribute [local go_sem] rOper rAt rUpon cell_set sg_i64 sg_u64 alloc_cell alloc_frozen
attribute [local go_sem 10000] pt_eql pt_neq tri_eql
attribute [local irreducible] rWalk
def eff5 (c0 c1 c2 c3 c4 : Value) (b : Nat) (w : World) : World := ((((w.setCell ⟨b, 0, none⟩ c0).setCell ⟨b, 1, none⟩ c1).setCell ⟨b, 2, none⟩ c2).setCell ⟨b, 3, none⟩ c3).setCell ⟨b, 4, none⟩ c4
theorem zEa {c0 c1 c2 c3 c4 z : Value} {T : TypeId} (w : World) (b : Nat) (h : w.heap[b]? = some (.cells [z, z, z, z, z].toArray T)) : (eff5 c0 c1 c2 c3 c4 b w).heap[b]? = some (.cells [c0, c1, c2, c3, c4].toArray T) ∧ (∀ B, B ≤ b → Below B w (eff5 c0 c1 c2 c3 c4 b w)) := by
 have B0 : Box w b [z, z, z, z, z] T := h
 exact ⟨((((B0.set 0 c0).set 1 c1).set 2 c2).set 3 c3).set 4 c4, fun B hB => (((((Below.refl B w).setCell hB _).setCell hB _).setCell hB _).setCell hB _).setCell hB _⟩
theorem rsquare_any (W H : Int) (w : World) :
    Calls Tryz.prog 67 #[.int .i64 W, .int .i64 H] w fun e w' => e = .returned (.agg #[.int .i64 0, .int .i64 0, .int .i64 W, .int .i64 0, .int .i64 W, .int .i64 H, .int .i64 0, .int .i64 H]) ∧ Below w.heap.size w w' := by
 go_enter Tryz.func67, Tryz.ntmps67
 go_wp2_with fail
 generalize hW : w.alloc (.cells #[.int .i64 0, .int .i64 0, .int .i64 W, .int .i64 0, .int .i64 W, .int .i64 H, .int .i64 0, .int .i64 H] 98) = W1
 have Bq : Box W1 w.heap.size [.int .i64 0, .int .i64 0, .int .i64 W, .int .i64 0, .int .i64 W, .int .i64 H, .int .i64 0, .int .i64 H] 98 := by rw [← hW]; exact Box.new rfl
 have hw : Below w.heap.size w W1 := by rw [← hW]; go_grown
 clear hW
 have Fq := Bq.facts
 refine bodyPost_ret (v := .agg #[.int .i64 0, .int .i64 0, .int .i64 W, .int .i64 0, .int .i64 W, .int .i64 H, .int .i64 0, .int .i64 H]) (by simp [results, Tryz.results67, go_sem, Fq]) rfl ⟨rfl, hw⟩
def sqP (W H : Int) (k : Nat) : Pt := if k % 4 = 0 then ⟨0, 0⟩ else if k % 4 = 1 then ⟨W, 0⟩ else if k % 4 = 2 then ⟨W, H⟩ else ⟨0, H⟩
def sqW (W H : Int) (k : Nat) : Wl := mkW (sqP W H k) (sqP W H (k + 1)) 2
theorem zC8 (a b : Pt) : 0 ≤ (mkW a b 2).K ∧ (mkW a b 2).K ≤ 2 := by
 unfold mkW; split <;> simp
def NewCPost (W H : Int) (w : World) (e : Ending) (w' : World) : Prop :=
 ∃ cb mb b db v E L D, e = .returned (.pointer (some ⟨cb, 0, none⟩)) ∧ CdtAt w' cb mb b db v W H E D ∧ CInv W H E L D ∧ L.length = 2 ∧ (∀ q, someC L q ↔ q = ⟨0, 0⟩ ∨ q = ⟨W, 0⟩ ∨ q = ⟨W, H⟩ ∨ q = ⟨0, H⟩) ∧ D.Perm [sqW W H 0, sqW W H 1, sqW W H 2, sqW W H 3] ∧ Below w.heap.size w w' ∧ w.heap.size ≤ b ∧ w.heap.size ≤ db ∧ w.heap.size ≤ mb ∧ w.heap.size ≤ cb
theorem rnewcdt_any (W H : Int) (hW0 : 0 < W) (hH0 : 0 < H) (hW : W < 16777216) (hH : H < 16777216) (w : World) :
    Calls Tryz.prog 30 #[.int .i64 W, .int .i64 H] w (NewCPost W H w) := by
 have k1 : decide (W < 1) = false := by simp; omega
 have k2 : decide (16777216 ≤ W) = false := by simp; omega
 have k3 : decide (H < 1) = false := by simp; omega
 have k4 : decide (16777216 ≤ H) = false := by simp; omega
 have vb : ∀ q, inBox W H q → vld q = true := fun q hq => by rw [zAm]; unfold inBox at hq; omega
 have v0 : vld (⟨0, 0⟩ : Pt) = true := vb _ (by unfold inBox; simp only; omega)
 have v1 : vld (⟨W, 0⟩ : Pt) = true := vb _ (by unfold inBox; simp only; omega)
 have v2 : vld (⟨W, H⟩ : Pt) = true := vb _ (by unfold inBox; simp only; omega)
 have v3 : vld (⟨0, H⟩ : Pt) = true := vb _ (by unfold inBox; simp only; omega)
 have pWH := Int.mul_pos hW0 hH0
 have d1 : 0 < det (⟨0, 0⟩ : Pt) ⟨W, 0⟩ ⟨W, H⟩ := by
  have : det (⟨0, 0⟩ : Pt) ⟨W, 0⟩ ⟨W, H⟩ = W * H := by unfold det; grind
  omega
 have d2 : 0 < det (⟨0, 0⟩ : Pt) ⟨W, H⟩ ⟨0, H⟩ := by
  have : det (⟨0, 0⟩ : Pt) ⟨W, H⟩ ⟨0, H⟩ = W * H := by unfold det; grind
  omega
 obtain ⟨cX, vX⟩ := zB3 v0 v1 v2 d1
 obtain ⟨cY, vY⟩ := zB3 v0 v2 v3 d2
 have tS := tiles_square hW0 hH0 cX cY
 have o1 : ¬ ori (⟨0, 0⟩ : Pt) ⟨W, 0⟩ ⟨W, H⟩ = 0 := by rw [ori_v v0 v1 v2, zBl]; omega
 have o2 : ¬ ori (⟨0, 0⟩ : Pt) ⟨W, H⟩ ⟨0, H⟩ = 0 := by rw [ori_v v0 v2 v3, zBl]; omega
 have c1 := zBp ⟨0, 0⟩ ⟨W, 0⟩ ⟨W, H⟩
 have c2 := zBp ⟨0, 0⟩ ⟨W, H⟩ ⟨0, H⟩
 rw [show (!decide (ori (⟨0, 0⟩ : Pt) ⟨W, 0⟩ ⟨W, H⟩ = 0)) = true by simp [o1]] at c1
 rw [show (!decide (ori (⟨0, 0⟩ : Pt) ⟨W, H⟩ ⟨0, H⟩ = 0)) = true by simp [o2]] at c2
 dsimp only at c1 c2
 have HC := Lib.hid (show ∀ q, someC [mk ⟨0, 0⟩ ⟨W, 0⟩ ⟨W, H⟩, mk ⟨0, 0⟩ ⟨W, H⟩ ⟨0, H⟩] q ↔ q = ⟨0, 0⟩ ∨ q = ⟨W, 0⟩ ∨ q = ⟨W, H⟩ ∨ q = ⟨0, H⟩ from fun q => by
  simp only [zDd, cX.cnr_iff, cY.cnr_iff, iff_false_intro (zE4 q), or_false]
  constructor
  ·rintro ((k | k | k) | (k | k | k)) <;> simp [k]
  ·rintro (k | k | k | k) <;> simp [k])
 generalize mk ⟨0, 0⟩ ⟨W, 0⟩ ⟨W, H⟩ = X at *
 generalize mk ⟨0, 0⟩ ⟨W, H⟩ ⟨0, H⟩ = Y at *
 have hok : ∀ T ∈ [X, Y], okT T := fun T hT => by
  simp only [List.mem_cons, List.not_mem_nil, or_false] at hT
  rcases hT with rfl | rfl
  ·exact zBz vX
  ·exact zBz vY
 have gp := Good.puts (I := [X, Y]) (E := []) (M := []) ⟨.refl _, List.nodup_nil, fun T hT => by cases hT⟩ (fun T hT => by
  simp only [List.mem_cons, List.not_mem_nil, or_false] at hT
  rcases hT with rfl | rfl
  ·exact vX
  ·exact vY) tS.once
 have cn := fun a w0 R => rnew_any a 2 2 [X, Y] (Lib.hid rfl) (by omega) hok w0 R
 have HT := Lib.hid tS
 have HG := Lib.hid gp
 have cs := rsquare_any W H
 clear v0 v1 v2 v3 vb d1 d2 o1 o2 cX cY vX vY hok tS gp pWH
 go_enter Tryz.func30, Tryz.ntmps30
 go_wp2_with fail
 refine (cs _).mono ?_
 rintro e w1 ⟨rfl, hb⟩
 have hw := hb
 clear hb
 go_wp2_with fail
 refine zA1 fun W2 hW => ?_
 obtain ⟨bkq, hbq⟩ : ∃ b, w1.heap.size = b := ⟨_, rfl⟩
 rw [hbq]
 have fq := hw.size
 rw [hbq] at fq
 have Bq : Box W2 bkq [.int .i64 0, .int .i64 0, .int .i64 W, .int .i64 0, .int .i64 W, .int .i64 H, .int .i64 0, .int .i64 H] 98 := by rw [hW]; exact Box.new hbq.symm
 replace hw : Below w.heap.size w W2 := by have hl := hw.size; rw [hW]; go_grown
 clear hW hbq
 refine (c1 _).mono ?_
 rintro e w3 ⟨rfl, hb⟩
 replace Bq := Bq.ee hb
 replace hw := upB hw hb
 clear hb
 have Fq := Bq.facts
 go_wp2_with fail
 clear Fq
 refine zA1 fun W4 hW => ?_
 obtain ⟨bkx, hbx⟩ : ∃ b, w3.heap.size = b := ⟨_, rfl⟩
 rw [hbx]
 have lqx := Bq.lt
 rw [hbx] at lqx
 have fx := hw.size
 rw [hbx] at fx
 have Bx : Box W4 bkx [.int .i64 X.A.x, .int .i64 X.A.y, .int .i64 X.B.x, .int .i64 X.B.y, .int .i64 X.C.x, .int .i64 X.C.y] 38 := by rw [hW]; exact Box.new hbx.symm
 replace Bq : Box W4 (bkq) [.int .i64 0, .int .i64 0, .int .i64 W, .int .i64 0, .int .i64 W, .int .i64 H, .int .i64 0, .int .i64 H] 98 := by rw [hW]; exact Bq.old _
 replace hw : Below w.heap.size w W4 := by have hl := hw.size; rw [hW]; go_grown
 clear hW hbx
 refine (c2 _).mono ?_
 rintro e w5 ⟨rfl, hb⟩
 replace Bq := Bq.ee hb
 replace Bx := Bx.ee hb
 replace hw := upB hw hb
 clear hb
 have Fq := Bq.facts
 have Fx := Bx.facts
 go_wp2_with fail
 clear Fq Fx
 refine zA1 fun W9 hW => ?_
 have R1 : RowAt cT 6 W9 (some ⟨w5.heap.size + 1, 0, none⟩) [X, Y] := rowT_of_box (S := [X, Y]) (by rw [hW]; exact Box.new (by simp))
 have Bq9 : Box W9 bkq [.int .i64 0, .int .i64 0, .int .i64 W, .int .i64 0, .int .i64 W, .int .i64 H, .int .i64 0, .int .i64 H] 98 := by rw [hW]; exact (Bq.old _).old _
 replace hw : Below w.heap.size w W9 := by have := hw.size; rw [hW]; go_grown
 have lq := Bq.lt
 have lq9 := Bq9.lt
 clear hW Bq Bx
 refine (cn _ _ R1).mono ?_
 rintro e w10 hpost
 unfold RNewPost at hpost
 obtain ⟨mb, b, rfl, BM, HM, hbl, hml, hb, _⟩ | ⟨_, _, h⟩ := hpost
 rotate_left
 ·exact absurd h (by rw [HG.out.1]; simp)
 have Bq10 := Bq9.ee hb
 have hw10 := (upB hw hb)
 have hl1 := hw.size
 replace hbl := Nat.le_trans hl1 hbl
 replace hml := Nat.le_trans hl1 hml
 have lm := BM.lt
 have lb := HM.lt
 have lq10 := Bq10.lt
 generalize (putRun [] [X, Y]).2 = E at *
 have HG := Lib.hid HG.out.2
 clear hb cn R1 Bq9 hw c1 c2 cs
 go_wp2
 refine zA2 fun W11 hW => ?_
 have So : DocAt W11 w10.heap.size (.slice none 0 0) [] := ⟨by rw [hW]; exact (Box.new rfl).old _, World.ownsRow_nil _ _ _ _, by simp [Value.ownBlock], by simp⟩
 have Bc : Box W11 (w10.heap.size + 1) [.int .i64 W, .int .i64 H, .pointer (some ⟨mb, 0, none⟩), .pointer (some ⟨w10.heap.size, 0, none⟩)] 45 := by rw [hW]; exact Box.new (by simp)
 have Bq : Box W11 bkq [.int .i64 0, .int .i64 0, .int .i64 W, .int .i64 0, .int .i64 W, .int .i64 H, .int .i64 0, .int .i64 H] 98 := by rw [hW]; exact (Bq10.old _).old _
 have Bm : Box W11 mb [.map (some b)] 41 := by rw [hW]; exact (BM.old _).old _
 have Hm : HoldsMap eW eT okW W11 b E := by rw [hW]; exact (HM.alloc _).alloc _
 have hw : Below w.heap.size w W11 := by have := hw10.size; rw [hW]; go_grown
 have hws := hw10.size
 clear hW BM HM Bq10 hw10
 obtain ⟨db, hdb⟩ : ∃ db, w10.heap.size = db := ⟨_, rfl⟩
 rw [hdb] at So Bc lm lb lq10 hws
 rw [hdb]
 clear hdb
 have HP0 := Lib.hid (show ([] : List Wl).Perm ((List.range 0).map (sqW W H)) from .refl _)
 go_loopw [11] (fun v11 wr => ∃ (k : Nat) (j : Int) (v : Value) (D : List Wl), k ≤ 4 ∧ v11 = .int .i64 j ∧ Hid (j = k) ∧ DocAt wr db v D ∧ Hid (D.Perm ((List.range k).map (sqW W H))) ∧ Box wr bkq [.int .i64 0, .int .i64 0, .int .i64 W, .int .i64 0, .int .i64 W, .int .i64 H, .int .i64 0, .int .i64 H] 98 ∧ Box wr (db + 1) [.int .i64 W, .int .i64 H, .pointer (some ⟨mb, 0, none⟩), .pointer (some ⟨db, 0, none⟩)] 45 ∧ Box wr mb [.map (some b)] 41 ∧ HoldsMap eW eT okW wr b E ∧ Below w.heap.size w wr) (fun v11 _ => 4 - (intOf v11).toNat)
 case atStart => exact ⟨0, 0, _, [], by omega, rfl, Lib.hid rfl, So, HP0, Bq, Bc, Bm, Hm, hw⟩
 case round =>
  clear So Bq Bc Bm Hm hw HP0
  obtain ⟨k, j, v, D, hk, rfl, hj, So, HP, Bq, Bc, Bm, Hm, hw⟩ := hrel
  have hk' : k = 0 ∨ k = 1 ∨ k = 2 ∨ k = 3 ∨ k = 4 := by omega
  rcases hk' with rfl | rfl | rfl | rfl | rfl
  ·have hj : j = 0 := by simpa using hj.out
   subst hj
   have cw := zH8 ⟨0, 0⟩ ⟨W, 0⟩ 2
   have HZ := Lib.hid (show (List.range (0 + 1)).map (sqW W H) = (List.range 0).map (sqW W H) ++ [mkW ⟨0, 0⟩ ⟨W, 0⟩ 2] by rw [List.range_succ, List.map_append]; rfl)
   have hZk := zC8 ⟨0, 0⟩ ⟨W, 0⟩
   dsimp only at cw
   generalize mkW ⟨0, 0⟩ ⟨W, 0⟩ 2 = Z at *
   generalize mkOk ⟨0, 0⟩ ⟨W, 0⟩ 2 = zk at *
   have hq1 : IntKind.i64.wrap (0 + 1) = 1 := by decide
   have hq2 : IntKind.i64.wrap 1 = 1 := by decide
   have Fq := Bq.facts
   have Fc := Bc.facts
   go_wp2_with fail
   have gq := Bq.cells
   have gc := Bc.cells
   refine zA4 12 12 75 [.int .i64 Z.A.x, .int .i64 Z.A.y, .int .i64 Z.B.x, .int .i64 Z.B.y, .int .i64 Z.K] (zs := [.int .i64 0, .int .i64 0, .int .i64 0, .int .i64 0, .int .i64 0]) (eff := eff5 (.int .i64 Z.A.x) (.int .i64 Z.A.y) (.int .i64 Z.B.x) (.int .i64 Z.B.y) (.int .i64 Z.K)) zEa rfl rfl rfl rfl rfl rfl rfl (by simp) (fun ρ W => by simp [execOp, go_sem]; rfl) (by kernel_rfl) (by as_aux_lemma => kernel_rfl) (C := fun w' => ∃ p : Regrown, w' = grow (redrawn wr p.d) p.os) rgB ?_ (fun ρ W b e1 e2 hB => by obtain ⟨x, y, _, _⟩ := hB.facts; simp [execOp, go_sem, e1, e2, x, y, eff5])
   simp only [tK1, tK0, dP1, dP0]
   repeat (first | (refine zA0 (Eq.refl false) ?_; simp only [Act.put, sT2, sT1, sT0]) | (refine rWalk_step (fun K hK => ?_); go_simp; first | (refine hK _ ?_; clear hK K) | (apply Exists.intro; refine ⟨fun _ => ?_, hK _ ?_⟩; (first | with_reducible exact toExt cw _); clear hK K)))
   refine rWalk_nil ⟨rfl, ?_⟩
   intro w41 bkz hb h1b h2b Bz
   have lqz := Bq.lt
   have lcz := Bc.lt
   have hw0z := hw.size
   clear gq gc
   clear Fq Fc
   replace Bq := Bq.ee hb
   replace Bc := Bc.ee hb
   replace hw := upB hw hb
   have fz := h1b
   have hwz : w.heap.size ≤ wr.heap.size := hw0z
   replace So := So.ee hb
   replace Bm := Bm.ee hb
   replace Hm := Hm.ee hb
   clear hb h1b h2b hw0z
   simp only [Act.put]
   have Fq := Bq.facts
   have Fc := Bc.facts
   have Fz := Bz.facts
   go_wp2_with fail
   clear Fq Fc Fz
   have gc := Bc.cells
   have gz := Bz.cells
   refine wp_region_tail 5 (by kernel_rfl) (by kernel_rfl) (C := fun w' => ∃ p : Regrown, w' = grow (redrawn w41 p.d) p.os) rgB ?_
   simp only [tK1, tK0, dP1, dP0]
   repeat (first | (refine zA0 (Eq.refl false) ?_; simp only [Act.put, sT2, sT1, sT0]) | (refine rWalk_step (fun K hK => ?_); go_simp; first | (refine hK _ ?_; clear hK K) | (apply Exists.intro; refine ⟨fun _ => ?_, hK _ ?_⟩; (first | fail); clear hK K)))
   refine rWalk_nil ?_
   intro w60 hb
   clear gc gz
   replace So := So.ee hb
   replace Bm := Bm.ee hb
   replace Hm := Hm.ee hb
   replace Bq := Bq.ee hb
   replace Bc := Bc.ee hb
   replace hw := upB hw hb
   clear hb Bz
   have hlD : D.length = 0 := by have := HP.out.length_eq; simpa using this
   have hkD : ∀ x ∈ D, 0 ≤ x.K ∧ x.K ≤ 2 := fun x hx => by
    obtain ⟨i, _, rfl⟩ := List.mem_map.1 (HP.out.mem_iff.1 hx)
    exact zC8 _ _
   have cp := zD1 db v D Z (by omega) hkD hZk w60 So
   clear hlD hkD
   go_wp2_with fail
   refine cp.mono ?_
   rintro e w61 ⟨kp, v', rfl, hk5, So5, hf5, hv5⟩
   have hdw : w.heap.size ≤ db := hws
   have hbd : (some b) ≠ (some db) := fun e => So.box.ne_map Hm (Option.some.inj e).symm
   have Bq5 := hf5.box Bq (by omega)
   have Bc5 := hf5.box Bc (by omega)
   have Bm5 := hf5.box Bm (by omega)
   have Hm5 := Hm.kept hf5.grown hbd
   have hw5 := hw.trans (hf5.below (n := w.heap.size) (fun k hk => by rw [hk]; exact hdw) hw.size)
   have HP5 := Lib.hid (show (D.take kp ++ Z :: D.drop kp).Perm ((List.range (0 + 1)).map (sqW W H)) by
    rw [HZ.out]
    exact (zDp kp).trans ((HP.out.cons _).trans (List.perm_append_comm (l₁ := [Z]))))
   clear cp HP HZ hk5 hf5 hv5 So Bq Bc Bm Hm hw
   go_wp2
   go_roundw
   case rel => exact ⟨1, 1, v', _, by omega, by first | rfl | go_num, Lib.hid rfl, So5, HP5, Bq5, Bc5, Bm5, Hm5, hw5⟩
   case measure => simp [intOf]
  ·have hj : j = 1 := by simpa using hj.out
   subst hj
   have cw := zH8 ⟨W, 0⟩ ⟨W, H⟩ 2
   have HZ := Lib.hid (show (List.range (1 + 1)).map (sqW W H) = (List.range 1).map (sqW W H) ++ [mkW ⟨W, 0⟩ ⟨W, H⟩ 2] by rw [List.range_succ, List.map_append]; rfl)
   have hZk := zC8 ⟨W, 0⟩ ⟨W, H⟩
   dsimp only at cw
   generalize mkW ⟨W, 0⟩ ⟨W, H⟩ 2 = Z at *
   generalize mkOk ⟨W, 0⟩ ⟨W, H⟩ 2 = zk at *
   have hq1 : IntKind.i64.wrap (1 + 1) = 2 := by decide
   have hq2 : IntKind.i64.wrap 2 = 2 := by decide
   have Fq := Bq.facts
   have Fc := Bc.facts
   go_wp2_with fail
   have gq := Bq.cells
   have gc := Bc.cells
   refine zA4 12 12 75 [.int .i64 Z.A.x, .int .i64 Z.A.y, .int .i64 Z.B.x, .int .i64 Z.B.y, .int .i64 Z.K] (zs := [.int .i64 0, .int .i64 0, .int .i64 0, .int .i64 0, .int .i64 0]) (eff := eff5 (.int .i64 Z.A.x) (.int .i64 Z.A.y) (.int .i64 Z.B.x) (.int .i64 Z.B.y) (.int .i64 Z.K)) zEa rfl rfl rfl rfl rfl rfl rfl (by simp) (fun ρ W => by simp [execOp, go_sem]; rfl) (by kernel_rfl) (by as_aux_lemma => kernel_rfl) (C := fun w' => ∃ p : Regrown, w' = grow (redrawn wr p.d) p.os) rgB ?_ (fun ρ W b e1 e2 hB => by obtain ⟨x, y, _, _⟩ := hB.facts; simp [execOp, go_sem, e1, e2, x, y, eff5])
   simp only [tK1, tK0, dP1, dP0]
   repeat (first | (refine zA0 (Eq.refl false) ?_; simp only [Act.put, sT2, sT1, sT0]) | (refine rWalk_step (fun K hK => ?_); go_simp; first | (refine hK _ ?_; clear hK K) | (apply Exists.intro; refine ⟨fun _ => ?_, hK _ ?_⟩; (first | with_reducible exact toExt cw _); clear hK K)))
   refine rWalk_nil ⟨rfl, ?_⟩
   intro w41 bkz hb h1b h2b Bz
   have lqz := Bq.lt
   have lcz := Bc.lt
   have hw0z := hw.size
   clear gq gc
   clear Fq Fc
   replace Bq := Bq.ee hb
   replace Bc := Bc.ee hb
   replace hw := upB hw hb
   have fz := h1b
   have hwz : w.heap.size ≤ wr.heap.size := hw0z
   replace So := So.ee hb
   replace Bm := Bm.ee hb
   replace Hm := Hm.ee hb
   clear hb h1b h2b hw0z
   simp only [Act.put]
   have Fq := Bq.facts
   have Fc := Bc.facts
   have Fz := Bz.facts
   go_wp2_with fail
   clear Fq Fc Fz
   have gc := Bc.cells
   have gz := Bz.cells
   refine wp_region_tail 5 (by kernel_rfl) (by kernel_rfl) (C := fun w' => ∃ p : Regrown, w' = grow (redrawn w41 p.d) p.os) rgB ?_
   simp only [tK1, tK0, dP1, dP0]
   repeat (first | (refine zA0 (Eq.refl false) ?_; simp only [Act.put, sT2, sT1, sT0]) | (refine rWalk_step (fun K hK => ?_); go_simp; first | (refine hK _ ?_; clear hK K) | (apply Exists.intro; refine ⟨fun _ => ?_, hK _ ?_⟩; (first | fail); clear hK K)))
   refine rWalk_nil ?_
   intro w60 hb
   clear gc gz
   replace So := So.ee hb
   replace Bm := Bm.ee hb
   replace Hm := Hm.ee hb
   replace Bq := Bq.ee hb
   replace Bc := Bc.ee hb
   replace hw := upB hw hb
   clear hb Bz
   have hlD : D.length = 1 := by have := HP.out.length_eq; simpa using this
   have hkD : ∀ x ∈ D, 0 ≤ x.K ∧ x.K ≤ 2 := fun x hx => by
    obtain ⟨i, _, rfl⟩ := List.mem_map.1 (HP.out.mem_iff.1 hx)
    exact zC8 _ _
   have cp := zD1 db v D Z (by omega) hkD hZk w60 So
   clear hlD hkD
   go_wp2_with fail
   refine cp.mono ?_
   rintro e w61 ⟨kp, v', rfl, hk5, So5, hf5, hv5⟩
   have hdw : w.heap.size ≤ db := hws
   have hbd : (some b) ≠ (some db) := fun e => So.box.ne_map Hm (Option.some.inj e).symm
   have Bq5 := hf5.box Bq (by omega)
   have Bc5 := hf5.box Bc (by omega)
   have Bm5 := hf5.box Bm (by omega)
   have Hm5 := Hm.kept hf5.grown hbd
   have hw5 := hw.trans (hf5.below (n := w.heap.size) (fun k hk => by rw [hk]; exact hdw) hw.size)
   have HP5 := Lib.hid (show (D.take kp ++ Z :: D.drop kp).Perm ((List.range (1 + 1)).map (sqW W H)) by
    rw [HZ.out]
    exact (zDp kp).trans ((HP.out.cons _).trans (List.perm_append_comm (l₁ := [Z]))))
   clear cp HP HZ hk5 hf5 hv5 So Bq Bc Bm Hm hw
   go_wp2
   go_roundw
   case rel => exact ⟨2, 2, v', _, by omega, by first | rfl | go_num, Lib.hid rfl, So5, HP5, Bq5, Bc5, Bm5, Hm5, hw5⟩
   case measure => simp [intOf]
  ·have hj : j = 2 := by simpa using hj.out
   subst hj
   have cw := zH8 ⟨W, H⟩ ⟨0, H⟩ 2
   have HZ := Lib.hid (show (List.range (2 + 1)).map (sqW W H) = (List.range 2).map (sqW W H) ++ [mkW ⟨W, H⟩ ⟨0, H⟩ 2] by rw [List.range_succ, List.map_append]; rfl)
   have hZk := zC8 ⟨W, H⟩ ⟨0, H⟩
   dsimp only at cw
   generalize mkW ⟨W, H⟩ ⟨0, H⟩ 2 = Z at *
   generalize mkOk ⟨W, H⟩ ⟨0, H⟩ 2 = zk at *
   have hq1 : IntKind.i64.wrap (2 + 1) = 3 := by decide
   have hq2 : IntKind.i64.wrap 3 = 3 := by decide
   have Fq := Bq.facts
   have Fc := Bc.facts
   go_wp2_with fail
   have gq := Bq.cells
   have gc := Bc.cells
   refine zA4 12 12 75 [.int .i64 Z.A.x, .int .i64 Z.A.y, .int .i64 Z.B.x, .int .i64 Z.B.y, .int .i64 Z.K] (zs := [.int .i64 0, .int .i64 0, .int .i64 0, .int .i64 0, .int .i64 0]) (eff := eff5 (.int .i64 Z.A.x) (.int .i64 Z.A.y) (.int .i64 Z.B.x) (.int .i64 Z.B.y) (.int .i64 Z.K)) zEa rfl rfl rfl rfl rfl rfl rfl (by simp) (fun ρ W => by simp [execOp, go_sem]; rfl) (by kernel_rfl) (by as_aux_lemma => kernel_rfl) (C := fun w' => ∃ p : Regrown, w' = grow (redrawn wr p.d) p.os) rgB ?_ (fun ρ W b e1 e2 hB => by obtain ⟨x, y, _, _⟩ := hB.facts; simp [execOp, go_sem, e1, e2, x, y, eff5])
   simp only [tK1, tK0, dP1, dP0]
   repeat (first | (refine zA0 (Eq.refl false) ?_; simp only [Act.put, sT2, sT1, sT0]) | (refine rWalk_step (fun K hK => ?_); go_simp; first | (refine hK _ ?_; clear hK K) | (apply Exists.intro; refine ⟨fun _ => ?_, hK _ ?_⟩; (first | with_reducible exact toExt cw _); clear hK K)))
   refine rWalk_nil ⟨rfl, ?_⟩
   intro w41 bkz hb h1b h2b Bz
   have lqz := Bq.lt
   have lcz := Bc.lt
   have hw0z := hw.size
   clear gq gc
   clear Fq Fc
   replace Bq := Bq.ee hb
   replace Bc := Bc.ee hb
   replace hw := upB hw hb
   have fz := h1b
   have hwz : w.heap.size ≤ wr.heap.size := hw0z
   replace So := So.ee hb
   replace Bm := Bm.ee hb
   replace Hm := Hm.ee hb
   clear hb h1b h2b hw0z
   simp only [Act.put]
   have Fq := Bq.facts
   have Fc := Bc.facts
   have Fz := Bz.facts
   go_wp2_with fail
   clear Fq Fc Fz
   have gc := Bc.cells
   have gz := Bz.cells
   refine wp_region_tail 5 (by kernel_rfl) (by kernel_rfl) (C := fun w' => ∃ p : Regrown, w' = grow (redrawn w41 p.d) p.os) rgB ?_
   simp only [tK1, tK0, dP1, dP0]
   repeat (first | (refine zA0 (Eq.refl false) ?_; simp only [Act.put, sT2, sT1, sT0]) | (refine rWalk_step (fun K hK => ?_); go_simp; first | (refine hK _ ?_; clear hK K) | (apply Exists.intro; refine ⟨fun _ => ?_, hK _ ?_⟩; (first | fail); clear hK K)))
   refine rWalk_nil ?_
   intro w60 hb
   clear gc gz
   replace So := So.ee hb
   replace Bm := Bm.ee hb
   replace Hm := Hm.ee hb
   replace Bq := Bq.ee hb
   replace Bc := Bc.ee hb
   replace hw := upB hw hb
   clear hb Bz
   have hlD : D.length = 2 := by have := HP.out.length_eq; simpa using this
   have hkD : ∀ x ∈ D, 0 ≤ x.K ∧ x.K ≤ 2 := fun x hx => by
    obtain ⟨i, _, rfl⟩ := List.mem_map.1 (HP.out.mem_iff.1 hx)
    exact zC8 _ _
   have cp := zD1 db v D Z (by omega) hkD hZk w60 So
   clear hlD hkD
   go_wp2_with fail
   refine cp.mono ?_
   rintro e w61 ⟨kp, v', rfl, hk5, So5, hf5, hv5⟩
   have hdw : w.heap.size ≤ db := hws
   have hbd : (some b) ≠ (some db) := fun e => So.box.ne_map Hm (Option.some.inj e).symm
   have Bq5 := hf5.box Bq (by omega)
   have Bc5 := hf5.box Bc (by omega)
   have Bm5 := hf5.box Bm (by omega)
   have Hm5 := Hm.kept hf5.grown hbd
   have hw5 := hw.trans (hf5.below (n := w.heap.size) (fun k hk => by rw [hk]; exact hdw) hw.size)
   have HP5 := Lib.hid (show (D.take kp ++ Z :: D.drop kp).Perm ((List.range (2 + 1)).map (sqW W H)) by
    rw [HZ.out]
    exact (zDp kp).trans ((HP.out.cons _).trans (List.perm_append_comm (l₁ := [Z]))))
   clear cp HP HZ hk5 hf5 hv5 So Bq Bc Bm Hm hw
   go_wp2
   go_roundw
   case rel => exact ⟨3, 3, v', _, by omega, by first | rfl | go_num, Lib.hid rfl, So5, HP5, Bq5, Bc5, Bm5, Hm5, hw5⟩
   case measure => simp [intOf]
  ·have hj : j = 3 := by simpa using hj.out
   subst hj
   have cw := zH8 ⟨0, H⟩ ⟨0, 0⟩ 2
   have HZ := Lib.hid (show (List.range (3 + 1)).map (sqW W H) = (List.range 3).map (sqW W H) ++ [mkW ⟨0, H⟩ ⟨0, 0⟩ 2] by rw [List.range_succ, List.map_append]; rfl)
   have hZk := zC8 ⟨0, H⟩ ⟨0, 0⟩
   dsimp only at cw
   generalize mkW ⟨0, H⟩ ⟨0, 0⟩ 2 = Z at *
   generalize mkOk ⟨0, H⟩ ⟨0, 0⟩ 2 = zk at *
   have hq1 : IntKind.i64.wrap (3 + 1) = 4 := by decide
   have hq2 : IntKind.i64.wrap 4 = 4 := by decide
   have Fq := Bq.facts
   have Fc := Bc.facts
   go_wp2_with fail
   have gq := Bq.cells
   have gc := Bc.cells
   refine zA4 12 12 75 [.int .i64 Z.A.x, .int .i64 Z.A.y, .int .i64 Z.B.x, .int .i64 Z.B.y, .int .i64 Z.K] (zs := [.int .i64 0, .int .i64 0, .int .i64 0, .int .i64 0, .int .i64 0]) (eff := eff5 (.int .i64 Z.A.x) (.int .i64 Z.A.y) (.int .i64 Z.B.x) (.int .i64 Z.B.y) (.int .i64 Z.K)) zEa rfl rfl rfl rfl rfl rfl rfl (by simp) (fun ρ W => by simp [execOp, go_sem]; rfl) (by kernel_rfl) (by as_aux_lemma => kernel_rfl) (C := fun w' => ∃ p : Regrown, w' = grow (redrawn wr p.d) p.os) rgB ?_ (fun ρ W b e1 e2 hB => by obtain ⟨x, y, _, _⟩ := hB.facts; simp [execOp, go_sem, e1, e2, x, y, eff5])
   simp only [tK1, tK0, dP1, dP0]
   repeat (first | (refine zA0 (Eq.refl false) ?_; simp only [Act.put, sT2, sT1, sT0]) | (refine rWalk_step (fun K hK => ?_); go_simp; first | (refine hK _ ?_; clear hK K) | (apply Exists.intro; refine ⟨fun _ => ?_, hK _ ?_⟩; (first | with_reducible exact toExt cw _); clear hK K)))
   refine rWalk_nil ⟨rfl, ?_⟩
   intro w41 bkz hb h1b h2b Bz
   have lqz := Bq.lt
   have lcz := Bc.lt
   have hw0z := hw.size
   clear gq gc
   clear Fq Fc
   replace Bq := Bq.ee hb
   replace Bc := Bc.ee hb
   replace hw := upB hw hb
   have fz := h1b
   have hwz : w.heap.size ≤ wr.heap.size := hw0z
   replace So := So.ee hb
   replace Bm := Bm.ee hb
   replace Hm := Hm.ee hb
   clear hb h1b h2b hw0z
   simp only [Act.put]
   have Fq := Bq.facts
   have Fc := Bc.facts
   have Fz := Bz.facts
   go_wp2_with fail
   clear Fq Fc Fz
   have gc := Bc.cells
   have gz := Bz.cells
   refine wp_region_tail 5 (by kernel_rfl) (by kernel_rfl) (C := fun w' => ∃ p : Regrown, w' = grow (redrawn w41 p.d) p.os) rgB ?_
   simp only [tK1, tK0, dP1, dP0]
   repeat (first | (refine zA0 (Eq.refl false) ?_; simp only [Act.put, sT2, sT1, sT0]) | (refine rWalk_step (fun K hK => ?_); go_simp; first | (refine hK _ ?_; clear hK K) | (apply Exists.intro; refine ⟨fun _ => ?_, hK _ ?_⟩; (first | fail); clear hK K)))
   refine rWalk_nil ?_
   intro w60 hb
   clear gc gz
   replace So := So.ee hb
   replace Bm := Bm.ee hb
   replace Hm := Hm.ee hb
   replace Bq := Bq.ee hb
   replace Bc := Bc.ee hb
   replace hw := upB hw hb
   clear hb Bz
   have hlD : D.length = 3 := by have := HP.out.length_eq; simpa using this
   have hkD : ∀ x ∈ D, 0 ≤ x.K ∧ x.K ≤ 2 := fun x hx => by
    obtain ⟨i, _, rfl⟩ := List.mem_map.1 (HP.out.mem_iff.1 hx)
    exact zC8 _ _
   have cp := zD1 db v D Z (by omega) hkD hZk w60 So
   clear hlD hkD
   go_wp2_with fail
   refine cp.mono ?_
   rintro e w61 ⟨kp, v', rfl, hk5, So5, hf5, hv5⟩
   have hdw : w.heap.size ≤ db := hws
   have hbd : (some b) ≠ (some db) := fun e => So.box.ne_map Hm (Option.some.inj e).symm
   have Bq5 := hf5.box Bq (by omega)
   have Bc5 := hf5.box Bc (by omega)
   have Bm5 := hf5.box Bm (by omega)
   have Hm5 := Hm.kept hf5.grown hbd
   have hw5 := hw.trans (hf5.below (n := w.heap.size) (fun k hk => by rw [hk]; exact hdw) hw.size)
   have HP5 := Lib.hid (show (D.take kp ++ Z :: D.drop kp).Perm ((List.range (3 + 1)).map (sqW W H)) by
    rw [HZ.out]
    exact (zDp kp).trans ((HP.out.cons _).trans (List.perm_append_comm (l₁ := [Z]))))
   clear cp HP HZ hk5 hf5 hv5 So Bq Bc Bm Hm hw
   go_wp2
   go_roundw
   case rel => exact ⟨4, 4, v', _, by omega, by first | rfl | go_num, Lib.hid rfl, So5, HP5, Bq5, Bc5, Bm5, Hm5, hw5⟩
   case measure => simp [intOf]
  ·have hj : j = 4 := by simpa using hj.out
   subst hj
   have gc := Bc.cells
   go_wp2_with fail
   refine wp_region_tail 8 (by kernel_rfl) (by kernel_rfl) (C := fun w' => ∃ p : Regrown, w' = grow (redrawn wr p.d) p.os) rgB ?_
   simp only [tK1, tK0, dP1, dP0]
   repeat (first | (refine zA0 (Eq.refl false) ?_; simp only [Act.put, sT2, sT1, sT0]) | (refine rWalk_step (fun K hK => ?_); go_simp; first | (refine hK _ ?_; clear hK K) | (apply Exists.intro; refine ⟨fun _ => ?_, hK _ ?_⟩; (first | fail); clear hK K)))
   refine rWalk_nil ?_
   intro w60 hb
   clear gc
   have S6 : CdtAt w60 (db + 1) mb b db v W H E D := ⟨Bc.ee hb, Bm.ee hb, Hm.ee hb, So.ee hb, by omega, by omega⟩
   have hw6 := (upB hw hb)
   obtain ⟨a9, c9, hv9, Dr, _⟩ := S6.doc.rd
   have cr := zEu mb b db a9 c9 D.length E [X, Y] D W H hW hH (by simp) HG.out HT.out w60 S6.mesh S6.map Dr
   clear hb So Bq Bc Bm Hm hw hv9 Dr
   go_wp2_with fail
   refine cr.mono ?_
   rintro e w7 ⟨rfl, E2, L2, g5, H5, r5, f5⟩
   have S7 : CdtAt w7 (db + 1) mb b db v W H E2 D := ⟨S6.box.turn S6.map g5, S6.mesh.turn S6.map g5, H5, S6.doc.turn S6.map g5, S6.cdb, S6.mdb⟩
   have hw7 := hw6.grown g5 hw6.size (fun k hk => by cases hk; exact hbl)
   have HI := Lib.hid (show CInv W H E2 L2 D from ⟨r5.good, f5, fun x hx => by
    obtain ⟨i, _, rfl⟩ := List.mem_map.1 (HP.out.mem_iff.1 hx)
    exact zC8 _ _⟩)
   have HL := Lib.hid (show L2.length = 2 by rw [r5.kept.len]; rfl)
   have HQ := Lib.hid (show ∀ q, someC L2 q ↔ q = ⟨0, 0⟩ ∨ q = ⟨W, 0⟩ ∨ q = ⟨W, H⟩ ∨ q = ⟨0, H⟩ from fun q => (r5.kept.cnr q).trans (HC.out q))
   have HP4 := Lib.hid (show D.Perm [sqW W H 0, sqW W H 1, sqW W H 2, sqW W H 3] from HP.out)
   clear cr g5 H5 r5 f5 S6 hw6
   go_wp2
   go_ret
   exact ⟨db + 1, mb, b, db, v, E2, L2, D, rfl, S7, HI.out, HL.out, HQ.out, HP4.out, hw7, hbl, hws, hml, by omega⟩
theorem round_eqC {i n : Int} (hn : 0 < n) (hn2 : n ≤ 4294967296) : (wrap64 (i.tmod n + n)).tmod n = i % n := by
 have h1 : 0 ≤ i % n := Int.emod_nonneg i (by omega)
 have h2 : i % n < n := Int.emod_lt_of_pos i hn
 have h3 : i.tmod n = i % n ∨ i.tmod n = i % n - n := by
  have h := @Int.tmod_eq_emod i n
  split at h
  ·left; omega
  ·right; rw [h]; omega
 have h4 : wrap64 (i.tmod n + n) = i.tmod n + n := by rw [w64]; omega
 rw [h4, Int.tmod_eq_emod_of_nonneg (by omega)]
 rcases h3 with h | h <;> rw [h]
 ·rw [Int.add_emod_right]; exact Int.emod_eq_of_lt h1 h2
 ·rw [show i % n - n + n = i % n by omega]; exact Int.emod_eq_of_lt h1 h2
theorem zIe {i n : Int} (hn : 0 < n) (hn2 : n ≤ 4294967296) (w : World) :
    Calls Tryz.prog 21 #[.int .i64 i, .int .i64 n] w fun e w' => e = .returned (.int .i64 (i % n)) ∧ Below w.heap.size w w' := by
 rw [← round_eqC hn hn2]
 have h0 : (n == 0) = false := by simp; omega
 have h1 : n ≠ 0 := by omega
 go_enter Tryz.func21, Tryz.ntmps21
 go_wp2
 all_goals go_ret
 all_goals exact ⟨rfl, by go_grown⟩
def spt (s n : Int) : Pt := ⟨n % ((s + 1) * (s + 1)) % (s + 1), n % ((s + 1) * (s + 1)) / (s + 1)⟩
theorem zGa {s : Int} (hs : 0 < s) (n : Int) : inBox s s (spt s n) := by
 have hp : 0 < (s + 1) * (s + 1) := Int.mul_pos (by omega) (by omega)
 have h1 := Int.emod_nonneg n (b := (s + 1) * (s + 1)) (by omega)
 have h2 := Int.emod_lt_of_pos n hp
 have h3 := Int.emod_nonneg (n % ((s + 1) * (s + 1))) (b := s + 1) (by omega)
 have h4 := Int.emod_lt_of_pos (n % ((s + 1) * (s + 1))) (b := s + 1) (by omega)
 have h5 : 0 ≤ n % ((s + 1) * (s + 1)) / (s + 1) := Int.ediv_nonneg h1 (by omega)
 have h6 : n % ((s + 1) * (s + 1)) / (s + 1) < s + 1 := Int.ediv_lt_of_lt_mul (by omega) h2
 unfold inBox spt
 simp only
 omega
theorem zFe (s n : Int) (hs : 0 < s) (hs2 : s ≤ 60) (w : World) :
    Calls Tryz.prog 14 #[.int .i64 s, .int .i64 n] w fun e w' => e = .returned (.agg #[.int .i64 (spt s n).x, .int .i64 (spt s n).y]) ∧ Below w.heap.size w w' := by
 have hp : 0 < (s + 1) * (s + 1) := Int.mul_pos (by omega) (by omega)
 have hp2 : (s + 1) * (s + 1) ≤ 4000 := by
  have := Int.mul_le_mul (a := s + 1) (b := s + 1) (c := 61) (d := 61) (by omega) (by omega) (by omega) (by omega)
  omega
 have cr := zIe (i := n) (n := (s + 1) * (s + 1)) hp (by omega)
 have hk1 := Int.emod_nonneg n (b := (s + 1) * (s + 1)) (by omega)
 have hk2 := Int.emod_lt_of_pos n hp
 have hb := zGa hs n
 have HE := Lib.hid (show spt s n = ⟨n % ((s + 1) * (s + 1)) % (s + 1), n % ((s + 1) * (s + 1)) / (s + 1)⟩ from rfl)
 have hw1 : wrap64 ((s + 1) * (s + 1)) = (s + 1) * (s + 1) := by rw [w64]; omega
 have hk3 : n % ((s + 1) * (s + 1)) < 4000 := by omega
 have HB := Lib.hid hb
 generalize n % ((s + 1) * (s + 1)) = k at *
 have ht1 : Int.tmod k (s + 1) = k % (s + 1) := Int.tmod_eq_emod_of_nonneg hk1
 have ht2 : Int.tdiv k (s + 1) = k / (s + 1) := Int.tdiv_eq_ediv_of_nonneg hk1
 go_enter Tryz.func14, Tryz.ntmps14
 have h5 : 0 ≤ k / (s + 1) := Int.ediv_nonneg hk1 (by omega)
 have h6 : k / (s + 1) ≤ k := Int.ediv_le_self _ hk1
 have h7 := Int.emod_nonneg k (b := s + 1) (by omega)
 have h8 := Int.emod_lt_of_pos k (b := s + 1) (by omega)
 have n0 : s + 1 ≠ 0 := by omega
 have n1 : (s + 1 == 0) = false := by simp; omega
 have n2 : (s + 1 = 0) = False := by simp; omega
 have a1 : IntKind.i64.wrap (s + 1) = s + 1 := by rw [IntKind.wrap_i64]; omega
 have a2 : IntKind.i64.wrap (k / (s + 1)) = k / (s + 1) := by rw [IntKind.wrap_i64]; omega
 have a3 : IntKind.i64.wrap (k % (s + 1)) = k % (s + 1) := by rw [IntKind.wrap_i64]; omega
 have HK := Lib.hid (show True from trivial)
 clear hb hp hp2 hk2 hk3
 go_wp2_with fail
 refine zA1 fun W1 hW => ?_
 have Br : Box W1 w.heap.size [.int .i64 0, .int .i64 0] 30 := by rw [hW]; exact Box.new rfl
 have hw : Below w.heap.size w W1 := by rw [hW]; go_grown
 clear hW
 refine (cr _).mono ?_
 rintro e w2 ⟨rfl, hb⟩
 have Br2 := Br.ee hb
 have hw2 := (upB hw hb)
 clear hb Br hw cr
 have Fr := Br2.facts
 go_wp2_with fail
 clear Fr
 have gr := Br2.cells
 refine wp_region_tail 9 (by kernel_rfl) (by kernel_rfl) (C := fun w' => ∃ p : Regrown, w' = grow (redrawn w2 p.d) p.os) rgB ?_
 simp only [tK1, tK0, dP1, dP0]
 repeat (first | (refine zA0 (Eq.refl false) ?_; simp only [Act.put, sT2, sT1, sT0]) | (refine rWalk_step (fun K hK => ?_); go_simp; first | (refine hK _ ?_; clear hK K) | (apply Exists.intro; refine ⟨fun _ => ?_, hK _ ?_⟩; (first | fail); clear hK K)))
 refine rWalk_nil ?_
 intro w3 hb
 clear gr
 have Br3 := Br2.ee hb
 have hw3 := (upB hw2 hb)
 clear hb Br2 hw2
 have Fr := Br3.facts
 go_wp2_with fail
 refine bodyPost_ret (v := .agg #[.int .i64 (k % (s + 1)), .int .i64 (k / (s + 1))]) (by simp [results, Tryz.results14, go_sem, Fr]) rfl ⟨by rw [HE.out], by have hl := hw3.size; go_grown⟩
def cI (x : Int) : List Value := [.int .i64 x]
theorem RowAt.num {w : World} {a : Option Addr} {P : List Int} (h : RowAt cI 1 w a P) {j : Nat} (hj : j < P.length) : ∃ ad, a = some ad ∧ ad.block < w.heap.size ∧ w.cell? (ad.add j) = some (.int .i64 P[j]) := by
 obtain ⟨ad, h1, h2, h3⟩ := h j P[j] (List.getElem?_eq_getElem hj)
 have h4 := h3 0 (.int .i64 P[j]) rfl
 rw [Nat.mul_one, show ∀ A : Addr, A.add 0 = A from fun A => by unfold Addr.add; split <;> simp_all] at h4
 exact ⟨ad, h1, h2, h4⟩
def PutPt (s : Int) (P : List Int) (q : Pt) : Prop := (q = ⟨0, 0⟩ ∨ q = ⟨s, 0⟩ ∨ q = ⟨s, s⟩ ∨ q = ⟨0, s⟩) ∨ ∃ x ∈ P, q = spt s x
def Built6Post (s : Int) (P : List Int) (w : World) (e : Ending) (w' : World) : Prop :=
 ∃ m2 b2 cb mb b db v E2 E L D, e = .returned (.tuple #[.pointer (some ⟨m2, 0, none⟩), .pointer (some ⟨cb, 0, none⟩)]) ∧ Box w' m2 [.map (some b2)] 89 ∧ HoldsMap eW eT okW w' b2 E2 ∧ Good E2 L ∧
  CdtAt w' cb mb b db v s s E D ∧ CInv s s E L D ∧ (∀ q, someC L q ↔ PutPt s P q) ∧ L.length ≤ 2 + 2 * P.length ∧ D.length ≤ 4 + 2 * P.length ∧ Below w.heap.size w w' ∧ w.heap.size ≤ m2 ∧ w.heap.size ≤ b2 ∧ m2 ≠ b ∧ m2 ≠ db ∧ b2 ≠ b ∧ b2 ≠ db
theorem zDl (s : Int) (hs : 0 < s) (hs2 : s ≤ 60) (a0 : Option Addr) (n c0 c1 : Nat) (P : List Int) (hP : Hid (P.length = n)) (hn : n ≤ 100) (w : World) (h0 : RowAt cI 1 w a0 P) :
    Calls Tryz.prog 13 #[.int .i64 s, .slice a0 n c0, .slice none 0 c1] w (Built6Post s P w) := by
 have cn := rnewcdt_any s s hs hs (by omega) (by omega)
 have csp := fun x => zFe s x hs hs2
 go_enter Tryz.func13, Tryz.ntmps13
 go_wp2_with fail
 refine (cn _).mono ?_
 rintro e w1 ⟨cb, mb, b, db, v, E, L, D, rfl, S, hI, hL, hC, hD, hw, hb1, hb2, hb3, hb4⟩
 have hC' := Lib.hid (show ∀ q, someC L q ↔ PutPt s [] q from fun q => by rw [hC q]; simp [PutPt])
 have hI' := Lib.hid hI
 have hL' := Lib.hid (show L.length ≤ 2 + 2 * 0 by omega)
 have hD' := Lib.hid (show D.length ≤ 4 + 2 * 0 by rw [hD.length_eq]; simp)
 replace hb1 := Lib.hid hb1
 replace hb2 := Lib.hid hb2
 clear cn hI hL hC hD
 go_wp2_with fail
 go_loopw [9] (fun vi wr => ∃ (k : Nat) (v : Value) (E : Es) (L : List Tri3) (D : List Wl), vi = .int .i64 k ∧ k ≤ n ∧ CdtAt wr cb mb b db v s s E D ∧ Hid (CInv s s E L D) ∧ Hid (∀ q, someC L q ↔ PutPt s (P.take k) q) ∧ Hid (L.length ≤ 2 + 2 * k) ∧ Hid (D.length ≤ 4 + 2 * k) ∧ Below w.heap.size w wr) (fun vi _ => n - (intOf vi).toNat)
 case atStart => exact ⟨0, v, E, L, D, rfl, Nat.zero_le _, S, hI', by simpa using hC', hL', hD', hw⟩
 case round =>
  clear S hI' hC' hL' hD' hw
  obtain ⟨k, v, E, L, D, rfl, hk, S, hI, hC, hL, hD, hw⟩ := hrel
  by_cases hlt : k < n
  case neg =>
   obtain rfl : k = n := by omega
   have hC2 := Lib.hid (show ∀ q, someC L q ↔ PutPt s P q from fun q => by rw [hC.out q, List.take_of_length_le (by rw [hP.out]; omega)])
   clear hC hlt hk
   have hG := hI.out.good
   have hLk := hL.out
   have hE : E.length ≤ 1000000 := by rw [hG.len]; omega
   have ht := fun W B H => zH5 mb b E hE W B H
   have hp0 : (srt cmpT (heads (fun _ => true) E)).Perm L := (zAd _).trans hG.heads
   generalize srt cmpT (heads (fun _ => true) E) = I at *
   obtain ⟨m, hm⟩ : ∃ m, I.length = m := ⟨_, rfl⟩
   rw [hm] at ht
   have hm1 : m ≤ 1000000 := by rw [← hm, hp0.length_eq]; omega
   have hv : ∀ T ∈ I, valT T = true := fun T h => hG.val T (hp0.mem_iff.1 h)
   have hgo := Good.puts (I := I) (E := []) (M := []) ⟨by simp, by simp [KeysNodup], by simp⟩ hv (by
    rw [List.append_nil]
    exact ((hp0.flatMap_right ways).nodup_iff).2 hG.once)
   rw [List.append_nil, hm] at hgo
   obtain ⟨hg1, hg2⟩ := hgo
   have hG2 := Lib.hid (show Good (putRun [] I).2 L from ⟨hg2.perm.trans (hp0.flatMap_right wys), hg2.nodup, hG.val⟩)
   have hn2 := fun a cap W H => mnew_1 a cap m I (Lib.hid hm) hm1 (fun T h => zBz (hv T h)) hg1 W H
   clear hg1 hg2 hv hp0 hm1 hE hG hLk hm
   have Fs := S.box.facts
   go_wp2_with fail
   refine wp_loop_rounds 1 ?_
   try rw [rounds_succ]
   go_wp2_with fail
   clear Fs
   refine (ht _ S.mesh S.map).mono ?_
   rintro e w5 ⟨a5, c5, rfl, hr5, hb⟩
   replace S := S.ee hb
   have hw5 := (upB hw hb)
   clear hb ht hw
   go_wp2_with fail
   refine (hn2 _ _ _ hr5).mono ?_
   rintro e w6 ⟨m2, b2, rfl, B2, H2, h1, h2, hb⟩
   have S6 := S.ee hb
   have hw6 := (upB hw5 hb)
   have hbl := S.map.lt
   have hdl := S.doc.box.lt
   clear hb hn2 hr5
   go_wp2
   refine bodyPost_ret (v := .tuple #[.pointer (some ⟨m2, 0, none⟩), .pointer (some ⟨cb, 0, none⟩)]) (by simp [results, Tryz.results13, go_sem]) rfl ?_
   exact ⟨m2, b2, cb, mb, b, db, v, _, E, L, D, rfl, B2, H2, hG2.out, S6, hI.out, hC2.out, by rw [hP.out]; exact hL.out, by rw [hP.out]; exact hD.out, hw6, Nat.le_trans hw5.size h2, Nat.le_trans hw5.size h1, by omega, by omega, by omega, by omega⟩
  case pos =>
   have hlk : k < P.length := hP.out ▸ hlt
   have HN := Lib.hid (show P.take (k + 1) = P.take k ++ [P[k]] from List.take_succ_eq_append_getElem hlk)
   obtain ⟨ad, ea, hab0, hA0⟩ := h0.num hlk
   have hA := (h0.ee hw).num hlk
   obtain ⟨ad2, ea2, hab, hA⟩ := hA
   obtain rfl : ad = ad2 := by rw [ea] at ea2; exact Option.some.inj ea2
   clear hA0 ea2
   generalize P[k] = x at *
   go_wp2_with fail
   refine (csp x _).mono ?_
   rintro e w3 ⟨rfl, hb⟩
   replace S := S.ee hb
   replace hw := upB hw hb
   clear hb hA
   go_wp2_with fail
   have hLk := hL.out
   have hDk := hD.out
   refine (rcadd_any cb mb b db v s s hs hs (by omega) (by omega) E L D hI.out (by omega) (by omega) (spt s x) _ S).mono ?_
   rintro e w4 ⟨r, v', E', L', D', rfl, S', hI2, hr, hC2, hL2, hD2, hf⟩
   have hw4 : Below w.heap.size w w4 := hw.trans (hf.below (fun j hj => by have := hb1.out; have := hb2.out; rcases hj with rfl | rfl <;> omega) hw.size)
   have hC3 := Lib.hid (show ∀ q, someC L' q ↔ PutPt s (P.take (k + 1)) q from fun q => by
    rw [hC2 q, hC.out q, HN.out]
    have hin : inBox s s (spt s x) := zGa hs x
    unfold PutPt
    constructor
    ·rintro ((h | ⟨y, h1, h2⟩) | ⟨h, _⟩)
     ·exact .inl h
     ·exact .inr ⟨y, List.mem_append_left _ h1, h2⟩
     ·exact .inr ⟨x, by simp, h⟩
    ·rintro (h | ⟨y, h1, h2⟩)
     ·exact .inl (.inl h)
     ·rcases List.mem_append.1 h1 with h1 | h1
      ·exact .inl (.inr ⟨y, h1, h2⟩)
      ·rw [List.mem_singleton] at h1
       rw [h1] at h2
       exact .inr ⟨h2, hin⟩)
   have hL3 := Lib.hid (show L'.length ≤ 2 + 2 * (k + 1) by omega)
   have hD3 := Lib.hid (show D'.length ≤ 4 + 2 * (k + 1) by omega)
   have hI3 := Lib.hid hI2
   clear hC2 hL2 hD2 hf hr hLk hDk hI2 S hw
   go_wp2_with fail
   rw [← ea]
   go_roundw
   case rel => exact ⟨k + 1, v', E', L', D', by go_num, by omega, S', hI3, hC3, hL3, hD3, hw4⟩
   case measure => simp [intOf]; omega
end Go.Proofs.YtmobnmjjmafibaaGreat
namespace Go.Proofs.YtmobnmjjmafibaaGreat
open Go.RowKit Go.Sort Go.ChangeShapes Go.WideShapes Go.ChangeAt
section
variable {H : Type} {enc : TypeId × Value → H} {P : Program} {w : World} {base : Nat} {spare : Nat → Bool} {held : Bool}
theorem trodAll_five {t0 t1 t2 t3 t4 : TypeId} {args : Array Value} {ds : List (DataW H)} {ps : List MemPlace} (h : DataW.TrodAll enc P w base spare held [t0, t1, t2, t3, t4] args.toList ds ps) :
    ∃ v0 v1 v2 v3 v4 d0 d1 d2 d3 d4 q0 q1 q2 q3 q4, args = #[v0, v1, v2, v3, v4] ∧ ds = [d0, d1, d2, d3, d4] ∧ ps = q0 ++ (q1 ++ (q2 ++ (q3 ++ q4))) ∧ DataW.Trod enc P w base spare held t0 v0 d0 q0 ∧ DataW.Trod enc P w base spare held t1 v1 d1 q1 ∧ DataW.Trod enc P w base spare held t2 v2 d2 q2 ∧ DataW.Trod enc P w base spare held t3 v3 d3 q3 ∧ DataW.Trod enc P w base spare held t4 v4 d4 q4 := by
 obtain ⟨v0, vs0, d0, ds0, q0, r0, hargs, rfl, rfl, h0, k0⟩ := trodAll_cons h
 obtain ⟨v1, vs1, d1, ds1, q1, r1, rfl, rfl, rfl, h1, k1⟩ := trodAll_cons k0
 obtain ⟨v2, vs2, d2, ds2, q2, r2, rfl, rfl, rfl, h2, k2⟩ := trodAll_cons k1
 obtain ⟨v3, vs3, d3, ds3, q3, r3, rfl, rfl, rfl, h3, k3⟩ := trodAll_cons k2
 obtain ⟨v4, vs4, d4, ds4, q4, r4, rfl, rfl, rfl, h4, k4⟩ := trodAll_cons k3
 obtain ⟨rfl, rfl, rfl⟩ := trodAll_nil k4
 exact ⟨v0, v1, v2, v3, v4, d0, d1, d2, d3, d4, q0, q1, q2, q3, q4, by cases args; simp_all, rfl, by simp, h0, h1, h2, h3, h4⟩
theorem trodAll_mk5 {t0 t1 t2 t3 t4 : TypeId} {v0 v1 v2 v3 v4 : Value} {d0 d1 d2 d3 d4 : DataW H} {q0 q1 q2 q3 q4 : List MemPlace} (h0 : DataW.Trod enc P w base spare held t0 v0 d0 q0) (h1 : DataW.Trod enc P w base spare held t1 v1 d1 q1) (h2 : DataW.Trod enc P w base spare held t2 v2 d2 q2) (h3 : DataW.Trod enc P w base spare held t3 v3 d3 q3) (h4 : DataW.Trod enc P w base spare held t4 v4 d4 q4) :
    DataW.TrodAll enc P w base spare held [t0, t1, t2, t3, t4] [v0, v1, v2, v3, v4] [d0, d1, d2, d3, d4] (q0 ++ (q1 ++ (q2 ++ (q3 ++ q4)))) := ⟨q0, _, h0, trodAll_mk4 h1 h2 h3 h4, rfl⟩
end
section
variable {H : Type} {enc : TypeId × Value → H} {w : World} {base : Nat → Bool} {spare : Bool}
theorem trod_num {b0 : Nat} {fuel : Nat} {cs : List Value} {y : DataW H × List MemPlace} (hl : cs.length = 1) (hf : DataW.trod enc Tryz.prog w b0 base spare fuel 3 cs = some y) :
    ∃ x : Int, cs = cI x := by
 match cs, hl with
 | [v], _ =>
  obtain ⟨a0, h4, rfl, _⟩ := DataW.trod_int Tryz.underlying3 hf
  simp at h4
  exact ⟨a0, by unfold cI; rw [h4]⟩
theorem open_rowI {r : Reach} {b0 b1 : Nat} {v : Value} {d : DataW H} {p : List MemPlace} (hv : Value.okWide Tryz.prog w r b1 22 v) (h : DataW.Trod enc Tryz.prog w b0 base spare 22 v d p) :
    ∃ (a : Option Addr) (n cap : Nat) (L : List Int), v = .slice a n cap ∧ L.length = n ∧ RowAt cI 1 w a L := by
 obtain ⟨a0, n0, k0, rfl⟩ := okWide_slice Tryz.underlying22 hv
 obtain ⟨fuel, hf⟩ := h
 simp only [Value.cells] at hf
 rcases Deep.open_slice Tryz.underlying22 hf with ⟨hcs, _⟩ | ⟨a, len, cap, m, n, D, Pl, hcs, hb, hl, hm, hmm, hx, hi⟩
 ·simp only [List.cons.injEq, Value.slice.injEq, and_true] at hcs
  obtain ⟨rfl, rfl, rfl⟩ := hcs
  exact ⟨none, 0, 0, [], rfl, rfl, fun j x hx => (by simp at hx)⟩
 ·simp only [List.cons.injEq, Value.slice.injEq, and_true] at hcs
  obtain ⟨rfl, rfl, rfl⟩ := hcs
  have hlm : n0 ≤ m := by rw [hmm]; split <;> omega
  have each : ∀ i, i < n0 → ∃ T : Int, ∀ j u, (cI T)[j]? = some u → w.cell? ((a.add (i * 1)).add j) = some u := fun i hin => by
   obtain ⟨cs', h1, h2⟩ := hi i (by omega)
   rw [show Tryz.prog.cellsOf 3 = 1 by kernel_rfl] at h1
   obtain ⟨_, hlen, hcell⟩ := World.cells?_some h1
   obtain ⟨T, rfl⟩ := trod_num hlen h2
   refine ⟨T, fun j u hu => ?_⟩
   rw [hcell j (by have := (List.getElem?_eq_some_iff.1 hu).1; rwa [hlen] at this)]; exact hu
  obtain ⟨f, hf2⟩ := Deep.choose_lt each
  refine ⟨some a, n0, k0, (List.range n0).map f, rfl, by simp, fun j x hx => ?_⟩
  rw [List.getElem?_map] at hx
  obtain ⟨i, hi1, rfl⟩ := Option.map_eq_some_iff.1 hx
  have hj : j < n0 ∧ i = j := by
   obtain ⟨h1, h2⟩ := List.getElem?_eq_some_iff.1 hi1
   simp at h1 h2; exact ⟨h1, h2.symm⟩
  obtain ⟨hj, rfl⟩ := hj
  have hc := hf2 i hj
  refine ⟨a, rfl, ?_, hc⟩
  have h4 := hc 0 _ rfl
  unfold World.cell? at h4
  rw [zAl, zAl] at h4
  rcases Nat.lt_or_ge a.block w.heap.size with h' | h'
  ·exact h'
  ·simp [Array.getElem?_eq_none h'] at h4
end
end Go.Proofs.YtmobnmjjmafibaaGreat
namespace Go.Proofs.YtmobnmjjmafibaaGreat
open Go.RowKit Go.Sort
attribute [local go_sem] rOper rAt rUpon cell_set sg_i64 sg_u64 alloc_cell alloc_frozen
attribute [local go_sem 10000] pt_eql pt_neq tri_eql
attribute [local irreducible] rWalk
theorem atCl (T : Tri3) (p : Pt) (pb : Nat) (w : World) (Bp : Box w pb [.int .i64 p.x, .int .i64 p.y] 30) : Calls Tryz.prog 54 #[.agg #[.int .i64 T.A.x, .int .i64 T.A.y, .int .i64 T.B.x, .int .i64 T.B.y, .int .i64 T.C.x, .int .i64 T.C.y], .pointer (some ⟨pb, 0, none⟩)] w fun e w' => e = .returned (.bool (hasP T p)) ∧ Below w.heap.size w w' := by
 have ch := has_any T p
 simp only [has_eq] at ch
 generalize hasP T p = z at *
 have Fp := Bp.facts
 go_enter Tryz.func54, Tryz.ntmps54
 go_wp2_with fail
 refine zA1 fun W1 hW => ?_
 have hw : Below w.heap.size w W1 := by rw [hW]; go_grown
 clear hW
 refine (ch _).mono ?_
 rintro e w2 ⟨rfl, hb⟩
 have hw2 := (upB hw hb)
 clear hb hw ch Fp
 go_wp2
 go_ret
 exact ⟨rfl, hw2⟩
theorem atEnter : ∀ args w, (callFunc 54 args).run Tryz.prog w = .ok (.enter 54 args) w := enters_of Tryz.func54 (by kernel_rfl) rfl
def stC (p : Pt) (T : Tri3) : Bool := peqI T.A.x T.A.y p.x p.y || (peqI T.B.x T.B.y p.x p.y || peqI T.C.x T.C.y p.x p.y)
theorem stC_eq (p : Pt) (T : Tri3) : stC p T = isCb p T := by
 unfold stC isCb
 have e : ∀ q : Pt, peqI q.x q.y p.x p.y = decide (p = q) := fun q => by
  by_cases h : p = q
  ·rw [pp h.symm]; simp [h]
  ·rw [zBa.2 (Ne.symm h)]; simp [h]
 rw [e, e, e]
theorem stCl0 (T : Tri3) (p : Pt) (pb : Nat) (h0 : peqI T.A.x T.A.y p.x p.y = true) (w : World) (Bp : Box w pb [.int .i64 p.x, .int .i64 p.y] 30) : Calls Tryz.prog 56 #[.agg #[.int .i64 T.A.x, .int .i64 T.A.y, .int .i64 T.B.x, .int .i64 T.B.y, .int .i64 T.C.x, .int .i64 T.C.y], .pointer (some ⟨pb, 0, none⟩)] w fun e w' => e = .returned (.bool true) ∧ Below w.heap.size w w' := by
 have Fp := Bp.facts
 go_enter Tryz.func56, Tryz.ntmps56
 go_wp2
 go_ret
 exact ⟨rfl, by go_grown⟩
theorem stCl1 (T : Tri3) (p : Pt) (pb : Nat) (h0 : peqI T.A.x T.A.y p.x p.y = false) (h1 : peqI T.B.x T.B.y p.x p.y = true) (w : World) (Bp : Box w pb [.int .i64 p.x, .int .i64 p.y] 30) : Calls Tryz.prog 56 #[.agg #[.int .i64 T.A.x, .int .i64 T.A.y, .int .i64 T.B.x, .int .i64 T.B.y, .int .i64 T.C.x, .int .i64 T.C.y], .pointer (some ⟨pb, 0, none⟩)] w fun e w' => e = .returned (.bool true) ∧ Below w.heap.size w w' := by
 have Fp := Bp.facts
 go_enter Tryz.func56, Tryz.ntmps56
 go_wp2
 go_ret
 exact ⟨rfl, by go_grown⟩
theorem stCl2 (T : Tri3) (p : Pt) (pb : Nat) (h0 : peqI T.A.x T.A.y p.x p.y = false) (h1 : peqI T.B.x T.B.y p.x p.y = false) (h2 : peqI T.C.x T.C.y p.x p.y = true) (w : World) (Bp : Box w pb [.int .i64 p.x, .int .i64 p.y] 30) : Calls Tryz.prog 56 #[.agg #[.int .i64 T.A.x, .int .i64 T.A.y, .int .i64 T.B.x, .int .i64 T.B.y, .int .i64 T.C.x, .int .i64 T.C.y], .pointer (some ⟨pb, 0, none⟩)] w fun e w' => e = .returned (.bool true) ∧ Below w.heap.size w w' := by
 have Fp := Bp.facts
 go_enter Tryz.func56, Tryz.ntmps56
 go_wp2
 go_ret
 exact ⟨rfl, by go_grown⟩
theorem stCl3 (T : Tri3) (p : Pt) (pb : Nat) (h0 : peqI T.A.x T.A.y p.x p.y = false) (h1 : peqI T.B.x T.B.y p.x p.y = false) (h2 : peqI T.C.x T.C.y p.x p.y = false) (w : World) (Bp : Box w pb [.int .i64 p.x, .int .i64 p.y] 30) : Calls Tryz.prog 56 #[.agg #[.int .i64 T.A.x, .int .i64 T.A.y, .int .i64 T.B.x, .int .i64 T.B.y, .int .i64 T.C.x, .int .i64 T.C.y], .pointer (some ⟨pb, 0, none⟩)] w fun e w' => e = .returned (.bool false) ∧ Below w.heap.size w w' := by
 have Fp := Bp.facts
 go_enter Tryz.func56, Tryz.ntmps56
 go_wp2
 go_ret
 exact ⟨rfl, by go_grown⟩
theorem stCl (T : Tri3) (p : Pt) (pb : Nat) (w : World) (Bp : Box w pb [.int .i64 p.x, .int .i64 p.y] 30) : Calls Tryz.prog 56 #[.agg #[.int .i64 T.A.x, .int .i64 T.A.y, .int .i64 T.B.x, .int .i64 T.B.y, .int .i64 T.C.x, .int .i64 T.C.y], .pointer (some ⟨pb, 0, none⟩)] w fun e w' => e = .returned (.bool (isCb p T)) ∧ Below w.heap.size w w' := by
 rw [← stC_eq]
 unfold stC
 cases h0 : peqI T.A.x T.A.y p.x p.y with
 | true => exact stCl0 T p pb h0 w Bp
 | false =>
  cases h1 : peqI T.B.x T.B.y p.x p.y with
  | true => exact stCl1 T p pb h0 h1 w Bp
  | false =>
   cases h2 : peqI T.C.x T.C.y p.x p.y with
   | true => exact stCl2 T p pb h0 h1 h2 w Bp
   | false => exact stCl3 T p pb h0 h1 h2 w Bp
theorem stEnter : ∀ args w, (callFunc 56 args).run Tryz.prog w = .ok (.enter 56 args) w := enters_of Tryz.func56 (by kernel_rfl) rfl
theorem zH2 (mb b : Nat) (E : Es) (p : Pt) (hE : E.length ≤ 1000000) (w : World) (Bm : Box w mb [.map (some b)] 89) (Hm : HoldsMap eW eT okW w b E) :
    Calls Tryz.prog 15 #[.pointer (some ⟨mb, 0, none⟩), .agg #[.int .i64 p.x, .int .i64 p.y]] w fun e w' => ∃ a cap, e = .returned (.slice a (srt cmpT (heads (fun T => hasP T p) E)).length cap) ∧ RowAt cT 6 w' a (srt cmpT (heads (fun T => hasP T p) E)) ∧ Below w.heap.size w w' := by
 obtain ⟨f, ef⟩ : ∃ f : Tri3 → Bool, f = (fun T => hasP T p) := ⟨_, rfl⟩
 rw [← ef]
 have cc : ∀ (T : Tri3) (pb : Nat) (W : World), Box W pb [.int .i64 p.x, .int .i64 p.y] 30 → Calls Tryz.prog 54 #[.agg #[.int .i64 T.A.x, .int .i64 T.A.y, .int .i64 T.B.x, .int .i64 T.B.y, .int .i64 T.C.x, .int .i64 T.C.y], .pointer (some ⟨pb, 0, none⟩)] W fun e w' => e = .returned (.bool (f T)) ∧ Below W.heap.size W w' := fun T pb W B => by rw [ef]; exact atCl T p pb W B
 clear ef
 go_enter Tryz.func15, Tryz.ntmps15
 go_wp2_with fail
 refine zA1 fun W1 hW => ?_
 have Bp : Box W1 w.heap.size [.int .i64 p.x, .int .i64 p.y] 30 := by rw [hW]; exact Box.new rfl
 have hw : Below w.heap.size w W1 := by rw [hW]; go_grown
 clear hW
 refine (zFc mb b E 54 #[.pointer (some ⟨w.heap.size, 0, none⟩)] f hE W1 (Bm.ee hw) (Hm.ee hw) atEnter (fun T W hW => cc T _ W (Bp.ee hW))).mono ?_
 rintro e w2 ⟨a, cap, rfl, hr, hb⟩
 have hw2 := (upB hw hb)
 go_wp2
 go_ret
 exact ⟨a, cap, rfl, hr, hw2⟩
theorem zE3 (mb b : Nat) (E : Es) (p : Pt) (hE : E.length ≤ 1000000) (w : World) (Bm : Box w mb [.map (some b)] 89) (Hm : HoldsMap eW eT okW w b E) :
    Calls Tryz.prog 16 #[.pointer (some ⟨mb, 0, none⟩), .agg #[.int .i64 p.x, .int .i64 p.y]] w fun e w' => ∃ a cap, e = .returned (.slice a (srt cmpT (heads (fun T => isCb p T) E)).length cap) ∧ RowAt cT 6 w' a (srt cmpT (heads (fun T => isCb p T) E)) ∧ Below w.heap.size w w' := by
 obtain ⟨f, ef⟩ : ∃ f : Tri3 → Bool, f = (fun T => isCb p T) := ⟨_, rfl⟩
 rw [← ef]
 have cc : ∀ (T : Tri3) (pb : Nat) (W : World), Box W pb [.int .i64 p.x, .int .i64 p.y] 30 → Calls Tryz.prog 56 #[.agg #[.int .i64 T.A.x, .int .i64 T.A.y, .int .i64 T.B.x, .int .i64 T.B.y, .int .i64 T.C.x, .int .i64 T.C.y], .pointer (some ⟨pb, 0, none⟩)] W fun e w' => e = .returned (.bool (f T)) ∧ Below W.heap.size W w' := fun T pb W B => by rw [ef]; exact stCl T p pb W B
 clear ef
 go_enter Tryz.func16, Tryz.ntmps16
 go_wp2_with fail
 refine zA1 fun W1 hW => ?_
 have Bp : Box W1 w.heap.size [.int .i64 p.x, .int .i64 p.y] 30 := by rw [hW]; exact Box.new rfl
 have hw : Below w.heap.size w W1 := by rw [hW]; go_grown
 clear hW
 refine (zFc mb b E 56 #[.pointer (some ⟨w.heap.size, 0, none⟩)] f hE W1 (Bm.ee hw) (Hm.ee hw) stEnter (fun T W hW => cc T _ W (Bp.ee hW))).mono ?_
 rintro e w2 ⟨a, cap, rfl, hr, hb⟩
 have hw2 := (upB hw hb)
 go_wp2
 go_ret
 exact ⟨a, cap, rfl, hr, hw2⟩
def flk1 (E : Es) (T : Tri3) (p : Pt) (k : Int) : Bool := (!peqI (crn T k).x (crn T k).y p.x p.y && !peqI (crn T (k + 1)).x (crn T (k + 1)).y p.x p.y) || (acrE E T k).2
def flkK (E : Es) (T : Tri3) (p : Pt) : Nat → Bool
 | 0 => true
 | k + 1 => flkK E T p k && flk1 E T p k
theorem zD4 {E : Es} {T : Tri3} {p : Pt} : ∀ {k n : Nat}, k ≤ n → flkK E T p k = false → flkK E T p n = false
 | k, 0, h, e => by obtain rfl : k = 0 := by omega
                    exact e
 | k, n + 1, h, e => by
  by_cases hk : k = n + 1
  ·rw [← hk]; exact e
  ·unfold flkK; rw [zD4 (by omega : k ≤ n) e]; rfl
theorem flanked_any (mb b : Nat) (E : Es) (T : Tri3) (hT : okT T) (p : Pt) (w : World) (Bm : Box w mb [.map (some b)] 89) (Hm : HoldsMap eW eT okW w b E) :
    Calls Tryz.prog 57 #[.pointer (some ⟨mb, 0, none⟩), .agg #[.int .i64 T.A.x, .int .i64 T.A.y, .int .i64 T.B.x, .int .i64 T.B.y, .int .i64 T.C.x, .int .i64 T.C.y], .agg #[.int .i64 p.x, .int .i64 p.y]] w fun e w' => e = .returned (.bool (flkK E T p 3)) ∧ Below w.heap.size w w' := by
 go_enter Tryz.func57, Tryz.ntmps57
 go_wp2_with fail
 refine zA2 fun W1 hW => ?_
 have Bt : Box W1 (w.heap.size) [.int .i64 T.A.x, .int .i64 T.A.y, .int .i64 T.B.x, .int .i64 T.B.y, .int .i64 T.C.x, .int .i64 T.C.y] 38 := by rw [hW]; exact (Box.new rfl).old _
 have Ba : Box W1 (w.heap.size + 1) [.int .i64 p.x, .int .i64 p.y] 30 := by rw [hW]; exact Box.new (by simp)
 have hw : Below w.heap.size w W1 := by rw [hW]; go_grown
 clear hW
 go_loopw [12] (fun v wr => ∃ (k : Nat) (j : Int), k ≤ 3 ∧ v = .int .i64 j ∧ Hid (j = k) ∧ Hid (flkK E T p k = true) ∧ Box wr (w.heap.size) [.int .i64 T.A.x, .int .i64 T.A.y, .int .i64 T.B.x, .int .i64 T.B.y, .int .i64 T.C.x, .int .i64 T.C.y] 38 ∧ Box wr (w.heap.size + 1) [.int .i64 p.x, .int .i64 p.y] 30 ∧ Below w.heap.size w wr) (fun v _ => 3 - (intOf v).toNat)
 case atStart => exact ⟨0, 0, by omega, rfl, Lib.hid rfl, Lib.hid rfl, Bt, Ba, hw⟩
 case round =>
  clear Bt Ba hw
  obtain ⟨k, j, hk, rfl, hj, HF, Bt, Ba, hw⟩ := hrel
  have hk' : k = 0 ∨ k = 1 ∨ k = 2 ∨ k = 3 := by omega
  rcases hk' with rfl | rfl | rfl | rfl
  ·have hj : j = 0 := by simpa using hj.out
   subst hj
   have c1 := zAs T 0
   have c2 := zEo mb b E T 0 hT
   have HN := Lib.hid (show flkK E T p (0 + 1) = (flkK E T p 0 && flk1 E T p 0) from rfl)
   unfold flk1 at HN
   rw [HF.out, Bool.true_and] at HN
   try rw [show acrE E T ((0 : Nat) : Int) = acrE E T 0 from rfl] at HN
   try rw [show crn T ((0 : Nat) : Int) = crn T 0 from rfl] at HN
   try rw [show crn T (((0 : Nat) : Int) + 1) = crn T (0 + 1) from rfl] at HN
   generalize acrE E T 0 = yz at *
   obtain ⟨y, z⟩ := yz
   generalize crn T 0 = u at *
   generalize crn T (0 + 1) = v at *
   dsimp only at HN c2
   have Ft := Bt.facts
   have Fa := Ba.facts
   go_wp2_with fail
   refine (c1 _).mono ?_
   rintro e w41 ⟨rfl, hb⟩
   clear Ft Fa
   replace Bt := Bt.ee hb
   replace Ba := Ba.ee hb
   replace hw := upB hw hb
   clear hb
   cases ea : peqI u.x u.y p.x p.y with
   | true =>
    have e1 : peqI u.x u.y p.x p.y = true := ea
    rw [e1] at HN
    simp only [Bool.not_true, Bool.false_and, Bool.false_or] at HN
    have nt : (w.heap.size = w41.heap.size + 1) = False := by have := hw.size; simp; omega
    have Ft := Bt.facts
    have Fa := Ba.facts
    go_wp2_with fail
    clear nt
    refine zA1 fun W42 hW => ?_
    obtain ⟨bku, hbu⟩ : ∃ b, w41.heap.size = b := ⟨_, rfl⟩
    rw [hbu]
    have ltu := Bt.lt
    rw [hbu] at ltu
    have lau := Ba.lt
    rw [hbu] at lau
    have fu := hw.size
    rw [hbu] at fu
    have Bu : Box W42 (bku) [.int .i64 u.x, .int .i64 u.y] 30 := by rw [hW, ← hbu]; exact (Box.new rfl).old _
    have Bv : Box W42 (bku + 1) [.int .i64 v.x, .int .i64 v.y] 30 := by rw [hW, ← hbu]; exact Box.new (by simp)
    replace Bt : Box W42 (w.heap.size) [.int .i64 T.A.x, .int .i64 T.A.y, .int .i64 T.B.x, .int .i64 T.B.y, .int .i64 T.C.x, .int .i64 T.C.y] 38 := by rw [hW]; exact ((Bt).old _).old _
    replace Ba : Box W42 (w.heap.size + 1) [.int .i64 p.x, .int .i64 p.y] 30 := by rw [hW]; exact ((Ba).old _).old _
    replace hw : Below w.heap.size w W42 := by have hl := hw.size; rw [hW]; go_grown
    clear hW hbu
    refine (c2 _ (Bm.ee hw) (Hm.ee hw)).mono ?_
    rintro e w43 ⟨rfl, hb⟩
    clear Ft Fa
    replace Bt := Bt.ee hb
    replace Ba := Ba.ee hb
    replace Bu := Bu.ee hb
    replace Bv := Bv.ee hb
    replace hw := upB hw hb
    clear hb
    cases z with
    | false =>
     have Ft := Bt.facts
     have Fa := Ba.facts
     have Fu := Bu.facts
     have Fv := Bv.facts
     go_wp2_with fail
     go_ret
     refine ⟨by rw [zD4 (by omega : 0 + 1 ≤ 3) HN.out]; rfl, ?_⟩
     have hl := hw.size
     go_grown
    | true =>
     have Ft := Bt.facts
     have Fa := Ba.facts
     have Fu := Bu.facts
     have Fv := Bv.facts
     go_wp2_with fail
     refine ⟨⟨1, 1, by omega, rfl, Lib.hid rfl, HN, by first | exact Bt.old _ | exact (Bt.old _).old _, by first | exact Ba.old _ | exact (Ba.old _).old _, ?_⟩, by decide⟩
     have hl := hw.size
     go_grown
   | false =>
    cases eb : peqI v.x v.y p.x p.y with
    | true =>
     have e1 : peqI u.x u.y p.x p.y = false := ea
     have e2 : peqI v.x v.y p.x p.y = true := eb
     rw [e1, e2] at HN
     simp only [Bool.not_true, Bool.and_false, Bool.false_or] at HN
     have nt : (w.heap.size = w41.heap.size + 1) = False := by have := hw.size; simp; omega
     have Ft := Bt.facts
     have Fa := Ba.facts
     go_wp2_with fail
     clear nt
     refine zA1 fun W42 hW => ?_
     obtain ⟨bku, hbu⟩ : ∃ b, w41.heap.size = b := ⟨_, rfl⟩
     rw [hbu]
     have ltu := Bt.lt
     rw [hbu] at ltu
     have lau := Ba.lt
     rw [hbu] at lau
     have fu := hw.size
     rw [hbu] at fu
     have Bu : Box W42 (bku) [.int .i64 u.x, .int .i64 u.y] 30 := by rw [hW, ← hbu]; exact (Box.new rfl).old _
     have Bv : Box W42 (bku + 1) [.int .i64 v.x, .int .i64 v.y] 30 := by rw [hW, ← hbu]; exact Box.new (by simp)
     replace Bt : Box W42 (w.heap.size) [.int .i64 T.A.x, .int .i64 T.A.y, .int .i64 T.B.x, .int .i64 T.B.y, .int .i64 T.C.x, .int .i64 T.C.y] 38 := by rw [hW]; exact ((Bt).old _).old _
     replace Ba : Box W42 (w.heap.size + 1) [.int .i64 p.x, .int .i64 p.y] 30 := by rw [hW]; exact ((Ba).old _).old _
     replace hw : Below w.heap.size w W42 := by have hl := hw.size; rw [hW]; go_grown
     clear hW hbu
     refine (c2 _ (Bm.ee hw) (Hm.ee hw)).mono ?_
     rintro e w43 ⟨rfl, hb⟩
     clear Ft Fa
     replace Bt := Bt.ee hb
     replace Ba := Ba.ee hb
     replace Bu := Bu.ee hb
     replace Bv := Bv.ee hb
     replace hw := upB hw hb
     clear hb
     cases z with
     | false =>
      have Ft := Bt.facts
      have Fa := Ba.facts
      have Fu := Bu.facts
      have Fv := Bv.facts
      go_wp2_with fail
      go_ret
      refine ⟨by rw [zD4 (by omega : 0 + 1 ≤ 3) HN.out]; rfl, ?_⟩
      have hl := hw.size
      go_grown
     | true =>
      have Ft := Bt.facts
      have Fa := Ba.facts
      have Fu := Bu.facts
      have Fv := Bv.facts
      go_wp2_with fail
      refine ⟨⟨1, 1, by omega, rfl, Lib.hid rfl, HN, by first | exact Bt.old _ | exact (Bt.old _).old _, by first | exact Ba.old _ | exact (Ba.old _).old _, ?_⟩, by decide⟩
      have hl := hw.size
      go_grown
    | false =>
     have e1 : peqI u.x u.y p.x p.y = false := ea
     have e2 : peqI v.x v.y p.x p.y = false := eb
     rw [e1, e2] at HN
     simp only [Bool.not_false, Bool.true_and, Bool.true_or] at HN
     have Ft := Bt.facts
     have Fa := Ba.facts
     go_wp2_with fail
     refine ⟨⟨1, 1, by omega, rfl, Lib.hid rfl, HN, by first | exact Bt.old _ | exact (Bt.old _).old _, by first | exact Ba.old _ | exact (Ba.old _).old _, ?_⟩, by decide⟩
     have hl := hw.size
     go_grown
  ·have hj : j = 1 := by simpa using hj.out
   subst hj
   have c1 := zAs T 1
   have c2 := zEo mb b E T 1 hT
   have HN := Lib.hid (show flkK E T p (1 + 1) = (flkK E T p 1 && flk1 E T p 1) from rfl)
   unfold flk1 at HN
   rw [HF.out, Bool.true_and] at HN
   try rw [show acrE E T ((1 : Nat) : Int) = acrE E T 1 from rfl] at HN
   try rw [show crn T ((1 : Nat) : Int) = crn T 1 from rfl] at HN
   try rw [show crn T (((1 : Nat) : Int) + 1) = crn T (1 + 1) from rfl] at HN
   generalize acrE E T 1 = yz at *
   obtain ⟨y, z⟩ := yz
   generalize crn T 1 = u at *
   generalize crn T (1 + 1) = v at *
   dsimp only at HN c2
   have Ft := Bt.facts
   have Fa := Ba.facts
   go_wp2_with fail
   refine (c1 _).mono ?_
   rintro e w41 ⟨rfl, hb⟩
   clear Ft Fa
   replace Bt := Bt.ee hb
   replace Ba := Ba.ee hb
   replace hw := upB hw hb
   clear hb
   cases ea : peqI u.x u.y p.x p.y with
   | true =>
    have e1 : peqI u.x u.y p.x p.y = true := ea
    rw [e1] at HN
    simp only [Bool.not_true, Bool.false_and, Bool.false_or] at HN
    have nt : (w.heap.size = w41.heap.size + 1) = False := by have := hw.size; simp; omega
    have Ft := Bt.facts
    have Fa := Ba.facts
    go_wp2_with fail
    clear nt
    refine zA1 fun W42 hW => ?_
    obtain ⟨bku, hbu⟩ : ∃ b, w41.heap.size = b := ⟨_, rfl⟩
    rw [hbu]
    have ltu := Bt.lt
    rw [hbu] at ltu
    have lau := Ba.lt
    rw [hbu] at lau
    have fu := hw.size
    rw [hbu] at fu
    have Bu : Box W42 (bku) [.int .i64 u.x, .int .i64 u.y] 30 := by rw [hW, ← hbu]; exact (Box.new rfl).old _
    have Bv : Box W42 (bku + 1) [.int .i64 v.x, .int .i64 v.y] 30 := by rw [hW, ← hbu]; exact Box.new (by simp)
    replace Bt : Box W42 (w.heap.size) [.int .i64 T.A.x, .int .i64 T.A.y, .int .i64 T.B.x, .int .i64 T.B.y, .int .i64 T.C.x, .int .i64 T.C.y] 38 := by rw [hW]; exact ((Bt).old _).old _
    replace Ba : Box W42 (w.heap.size + 1) [.int .i64 p.x, .int .i64 p.y] 30 := by rw [hW]; exact ((Ba).old _).old _
    replace hw : Below w.heap.size w W42 := by have hl := hw.size; rw [hW]; go_grown
    clear hW hbu
    refine (c2 _ (Bm.ee hw) (Hm.ee hw)).mono ?_
    rintro e w43 ⟨rfl, hb⟩
    clear Ft Fa
    replace Bt := Bt.ee hb
    replace Ba := Ba.ee hb
    replace Bu := Bu.ee hb
    replace Bv := Bv.ee hb
    replace hw := upB hw hb
    clear hb
    cases z with
    | false =>
     have Ft := Bt.facts
     have Fa := Ba.facts
     have Fu := Bu.facts
     have Fv := Bv.facts
     go_wp2_with fail
     go_ret
     refine ⟨by rw [zD4 (by omega : 1 + 1 ≤ 3) HN.out]; rfl, ?_⟩
     have hl := hw.size
     go_grown
    | true =>
     have Ft := Bt.facts
     have Fa := Ba.facts
     have Fu := Bu.facts
     have Fv := Bv.facts
     go_wp2_with fail
     refine ⟨⟨2, 2, by omega, rfl, Lib.hid rfl, HN, by first | exact Bt.old _ | exact (Bt.old _).old _, by first | exact Ba.old _ | exact (Ba.old _).old _, ?_⟩, by decide⟩
     have hl := hw.size
     go_grown
   | false =>
    cases eb : peqI v.x v.y p.x p.y with
    | true =>
     have e1 : peqI u.x u.y p.x p.y = false := ea
     have e2 : peqI v.x v.y p.x p.y = true := eb
     rw [e1, e2] at HN
     simp only [Bool.not_true, Bool.and_false, Bool.false_or] at HN
     have nt : (w.heap.size = w41.heap.size + 1) = False := by have := hw.size; simp; omega
     have Ft := Bt.facts
     have Fa := Ba.facts
     go_wp2_with fail
     clear nt
     refine zA1 fun W42 hW => ?_
     obtain ⟨bku, hbu⟩ : ∃ b, w41.heap.size = b := ⟨_, rfl⟩
     rw [hbu]
     have ltu := Bt.lt
     rw [hbu] at ltu
     have lau := Ba.lt
     rw [hbu] at lau
     have fu := hw.size
     rw [hbu] at fu
     have Bu : Box W42 (bku) [.int .i64 u.x, .int .i64 u.y] 30 := by rw [hW, ← hbu]; exact (Box.new rfl).old _
     have Bv : Box W42 (bku + 1) [.int .i64 v.x, .int .i64 v.y] 30 := by rw [hW, ← hbu]; exact Box.new (by simp)
     replace Bt : Box W42 (w.heap.size) [.int .i64 T.A.x, .int .i64 T.A.y, .int .i64 T.B.x, .int .i64 T.B.y, .int .i64 T.C.x, .int .i64 T.C.y] 38 := by rw [hW]; exact ((Bt).old _).old _
     replace Ba : Box W42 (w.heap.size + 1) [.int .i64 p.x, .int .i64 p.y] 30 := by rw [hW]; exact ((Ba).old _).old _
     replace hw : Below w.heap.size w W42 := by have hl := hw.size; rw [hW]; go_grown
     clear hW hbu
     refine (c2 _ (Bm.ee hw) (Hm.ee hw)).mono ?_
     rintro e w43 ⟨rfl, hb⟩
     clear Ft Fa
     replace Bt := Bt.ee hb
     replace Ba := Ba.ee hb
     replace Bu := Bu.ee hb
     replace Bv := Bv.ee hb
     replace hw := upB hw hb
     clear hb
     cases z with
     | false =>
      have Ft := Bt.facts
      have Fa := Ba.facts
      have Fu := Bu.facts
      have Fv := Bv.facts
      go_wp2_with fail
      go_ret
      refine ⟨by rw [zD4 (by omega : 1 + 1 ≤ 3) HN.out]; rfl, ?_⟩
      have hl := hw.size
      go_grown
     | true =>
      have Ft := Bt.facts
      have Fa := Ba.facts
      have Fu := Bu.facts
      have Fv := Bv.facts
      go_wp2_with fail
      refine ⟨⟨2, 2, by omega, rfl, Lib.hid rfl, HN, by first | exact Bt.old _ | exact (Bt.old _).old _, by first | exact Ba.old _ | exact (Ba.old _).old _, ?_⟩, by decide⟩
      have hl := hw.size
      go_grown
    | false =>
     have e1 : peqI u.x u.y p.x p.y = false := ea
     have e2 : peqI v.x v.y p.x p.y = false := eb
     rw [e1, e2] at HN
     simp only [Bool.not_false, Bool.true_and, Bool.true_or] at HN
     have Ft := Bt.facts
     have Fa := Ba.facts
     go_wp2_with fail
     refine ⟨⟨2, 2, by omega, rfl, Lib.hid rfl, HN, by first | exact Bt.old _ | exact (Bt.old _).old _, by first | exact Ba.old _ | exact (Ba.old _).old _, ?_⟩, by decide⟩
     have hl := hw.size
     go_grown
  ·have hj : j = 2 := by simpa using hj.out
   subst hj
   have c1 := zAs T 2
   have c2 := zEo mb b E T 2 hT
   have HN := Lib.hid (show flkK E T p (2 + 1) = (flkK E T p 2 && flk1 E T p 2) from rfl)
   unfold flk1 at HN
   rw [HF.out, Bool.true_and] at HN
   try rw [show acrE E T ((2 : Nat) : Int) = acrE E T 2 from rfl] at HN
   try rw [show crn T ((2 : Nat) : Int) = crn T 2 from rfl] at HN
   try rw [show crn T (((2 : Nat) : Int) + 1) = crn T (2 + 1) from rfl] at HN
   generalize acrE E T 2 = yz at *
   obtain ⟨y, z⟩ := yz
   generalize crn T 2 = u at *
   generalize crn T (2 + 1) = v at *
   dsimp only at HN c2
   have Ft := Bt.facts
   have Fa := Ba.facts
   go_wp2_with fail
   refine (c1 _).mono ?_
   rintro e w41 ⟨rfl, hb⟩
   clear Ft Fa
   replace Bt := Bt.ee hb
   replace Ba := Ba.ee hb
   replace hw := upB hw hb
   clear hb
   cases ea : peqI u.x u.y p.x p.y with
   | true =>
    have e1 : peqI u.x u.y p.x p.y = true := ea
    rw [e1] at HN
    simp only [Bool.not_true, Bool.false_and, Bool.false_or] at HN
    have nt : (w.heap.size = w41.heap.size + 1) = False := by have := hw.size; simp; omega
    have Ft := Bt.facts
    have Fa := Ba.facts
    go_wp2_with fail
    clear nt
    refine zA1 fun W42 hW => ?_
    obtain ⟨bku, hbu⟩ : ∃ b, w41.heap.size = b := ⟨_, rfl⟩
    rw [hbu]
    have ltu := Bt.lt
    rw [hbu] at ltu
    have lau := Ba.lt
    rw [hbu] at lau
    have fu := hw.size
    rw [hbu] at fu
    have Bu : Box W42 (bku) [.int .i64 u.x, .int .i64 u.y] 30 := by rw [hW, ← hbu]; exact (Box.new rfl).old _
    have Bv : Box W42 (bku + 1) [.int .i64 v.x, .int .i64 v.y] 30 := by rw [hW, ← hbu]; exact Box.new (by simp)
    replace Bt : Box W42 (w.heap.size) [.int .i64 T.A.x, .int .i64 T.A.y, .int .i64 T.B.x, .int .i64 T.B.y, .int .i64 T.C.x, .int .i64 T.C.y] 38 := by rw [hW]; exact ((Bt).old _).old _
    replace Ba : Box W42 (w.heap.size + 1) [.int .i64 p.x, .int .i64 p.y] 30 := by rw [hW]; exact ((Ba).old _).old _
    replace hw : Below w.heap.size w W42 := by have hl := hw.size; rw [hW]; go_grown
    clear hW hbu
    refine (c2 _ (Bm.ee hw) (Hm.ee hw)).mono ?_
    rintro e w43 ⟨rfl, hb⟩
    clear Ft Fa
    replace Bt := Bt.ee hb
    replace Ba := Ba.ee hb
    replace Bu := Bu.ee hb
    replace Bv := Bv.ee hb
    replace hw := upB hw hb
    clear hb
    cases z with
    | false =>
     have Ft := Bt.facts
     have Fa := Ba.facts
     have Fu := Bu.facts
     have Fv := Bv.facts
     go_wp2_with fail
     go_ret
     refine ⟨by rw [zD4 (by omega : 2 + 1 ≤ 3) HN.out]; rfl, ?_⟩
     have hl := hw.size
     go_grown
    | true =>
     have Ft := Bt.facts
     have Fa := Ba.facts
     have Fu := Bu.facts
     have Fv := Bv.facts
     go_wp2_with fail
     refine ⟨⟨3, 3, by omega, rfl, Lib.hid rfl, HN, by first | exact Bt.old _ | exact (Bt.old _).old _, by first | exact Ba.old _ | exact (Ba.old _).old _, ?_⟩, by decide⟩
     have hl := hw.size
     go_grown
   | false =>
    cases eb : peqI v.x v.y p.x p.y with
    | true =>
     have e1 : peqI u.x u.y p.x p.y = false := ea
     have e2 : peqI v.x v.y p.x p.y = true := eb
     rw [e1, e2] at HN
     simp only [Bool.not_true, Bool.and_false, Bool.false_or] at HN
     have nt : (w.heap.size = w41.heap.size + 1) = False := by have := hw.size; simp; omega
     have Ft := Bt.facts
     have Fa := Ba.facts
     go_wp2_with fail
     clear nt
     refine zA1 fun W42 hW => ?_
     obtain ⟨bku, hbu⟩ : ∃ b, w41.heap.size = b := ⟨_, rfl⟩
     rw [hbu]
     have ltu := Bt.lt
     rw [hbu] at ltu
     have lau := Ba.lt
     rw [hbu] at lau
     have fu := hw.size
     rw [hbu] at fu
     have Bu : Box W42 (bku) [.int .i64 u.x, .int .i64 u.y] 30 := by rw [hW, ← hbu]; exact (Box.new rfl).old _
     have Bv : Box W42 (bku + 1) [.int .i64 v.x, .int .i64 v.y] 30 := by rw [hW, ← hbu]; exact Box.new (by simp)
     replace Bt : Box W42 (w.heap.size) [.int .i64 T.A.x, .int .i64 T.A.y, .int .i64 T.B.x, .int .i64 T.B.y, .int .i64 T.C.x, .int .i64 T.C.y] 38 := by rw [hW]; exact ((Bt).old _).old _
     replace Ba : Box W42 (w.heap.size + 1) [.int .i64 p.x, .int .i64 p.y] 30 := by rw [hW]; exact ((Ba).old _).old _
     replace hw : Below w.heap.size w W42 := by have hl := hw.size; rw [hW]; go_grown
     clear hW hbu
     refine (c2 _ (Bm.ee hw) (Hm.ee hw)).mono ?_
     rintro e w43 ⟨rfl, hb⟩
     clear Ft Fa
     replace Bt := Bt.ee hb
     replace Ba := Ba.ee hb
     replace Bu := Bu.ee hb
     replace Bv := Bv.ee hb
     replace hw := upB hw hb
     clear hb
     cases z with
     | false =>
      have Ft := Bt.facts
      have Fa := Ba.facts
      have Fu := Bu.facts
      have Fv := Bv.facts
      go_wp2_with fail
      go_ret
      refine ⟨by rw [zD4 (by omega : 2 + 1 ≤ 3) HN.out]; rfl, ?_⟩
      have hl := hw.size
      go_grown
     | true =>
      have Ft := Bt.facts
      have Fa := Ba.facts
      have Fu := Bu.facts
      have Fv := Bv.facts
      go_wp2_with fail
      refine ⟨⟨3, 3, by omega, rfl, Lib.hid rfl, HN, by first | exact Bt.old _ | exact (Bt.old _).old _, by first | exact Ba.old _ | exact (Ba.old _).old _, ?_⟩, by decide⟩
      have hl := hw.size
      go_grown
    | false =>
     have e1 : peqI u.x u.y p.x p.y = false := ea
     have e2 : peqI v.x v.y p.x p.y = false := eb
     rw [e1, e2] at HN
     simp only [Bool.not_false, Bool.true_and, Bool.true_or] at HN
     have Ft := Bt.facts
     have Fa := Ba.facts
     go_wp2_with fail
     refine ⟨⟨3, 3, by omega, rfl, Lib.hid rfl, HN, by first | exact Bt.old _ | exact (Bt.old _).old _, by first | exact Ba.old _ | exact (Ba.old _).old _, ?_⟩, by decide⟩
     have hl := hw.size
     go_grown
  ·have hj : j = 3 := by simpa using hj.out
   subst hj
   go_wp2_with fail
   go_ret
   exact ⟨by rw [HF.out]; rfl, hw⟩
def starW (E : Es) (p : Pt) : List Tri3 := srt cmpT (heads (isCb p) E)
def closedW (E : Es) (p : Pt) : Bool := (starW E p).all (fun T => flkK E T p 3) && decide (0 < (starW E p).length)
theorem zDk (mb b : Nat) (E : Es) (p : Pt) (hE : E.length ≤ 1000000) (hok : ∀ T ∈ starW E p, okT T) (w : World) (Bm : Box w mb [.map (some b)] 89) (Hm : HoldsMap eW eT okW w b E) :
    Calls Tryz.prog 18 #[.pointer (some ⟨mb, 0, none⟩), .agg #[.int .i64 p.x, .int .i64 p.y]] w fun e w' => e = .returned (.bool (closedW E p)) ∧ Below w.heap.size w w' := by
 have cs := fun W B H => zE3 mb b E p hE W B H
 have hc : closedW E p = ((starW E p).all (fun T => flkK E T p 3) && decide (0 < (starW E p).length)) := rfl
 generalize closedW E p = r at *
 replace hc := Lib.hid hc
 change ∀ W, _ → _ → Calls _ _ _ W fun e w' => ∃ a cap, e = .returned (.slice a (starW E p).length cap) ∧ RowAt cT 6 w' a (starW E p) ∧ Below W.heap.size W w' at cs
 have hlen : (starW E p).length ≤ E.length := by unfold starW; rw [(zAd _).length_eq]; exact zBe _ _
 generalize starW E p = L at *
 obtain ⟨n, hn⟩ : ∃ n, L.length = n := ⟨_, rfl⟩
 rw [hn] at cs hc hlen
 replace hn := Lib.hid hn
 have hn1 : n ≤ 1000000 := by omega
 clear hlen hE
 go_enter Tryz.func18, Tryz.ntmps18
 go_wp2_with fail
 refine zA1 fun W1 hW => ?_
 have Bp : Box W1 (w.heap.size) [.int .i64 p.x, .int .i64 p.y] 30 := by rw [hW]; exact Box.new rfl
 have hw : Below w.heap.size w W1 := by rw [hW]; go_grown
 clear hW
 refine (cs _ (Bm.ee hw) (Hm.ee hw)).mono ?_
 rintro e w2 ⟨a0, c0, rfl, h0, hb⟩
 replace Bp := Bp.ee hb
 replace hw := upB hw hb
 clear hb
 have Fp := Bp.facts
 go_wp2_with fail
 clear Fp
 go_loopw [13] (fun v wr => ∃ k : Nat, v = .int .i64 k ∧ k ≤ n ∧ Hid (∀ T ∈ L.take k, flkK E T p 3 = true) ∧ Box wr (w.heap.size) [.int .i64 p.x, .int .i64 p.y] 30 ∧ Below w.heap.size w wr ∧ Below w2.heap.size w2 wr) (fun v _ => n - (intOf v).toNat)
 case atStart => exact ⟨0, rfl, Nat.zero_le _, Lib.hid (by simp), Bp, hw, Below.refl _ _⟩
 case round =>
  clear Bp hw
  obtain ⟨k, rfl, hk, HF, Bp, hw, hw0⟩ := hrel
  by_cases hlt : k < n
  case neg =>
   have hkn : k = n := by omega
   subst hkn
   cases hz : decide (0 < k) with
   | true =>
    have hz' : 0 < k := by simpa using hz
    go_wp2_with fail
    go_ret
    refine ⟨?_, hw⟩
    rw [hc.out, hz, show L.all (fun T => flkK E T p 3) = true from by rw [List.all_eq_true]; intro T hT; exact HF.out T (by rw [List.take_of_length_le (by rw [hn.out]; omega)]; exact hT)]
    simp
   | false =>
    obtain rfl : k = 0 := by simpa using hz
    go_wp2_with fail
    go_ret
    refine ⟨?_, hw⟩
    rw [hc.out, hz, Bool.and_false]
    rfl
  case pos =>
   have hlk : k < L.length := hn.out ▸ hlt
   have HN := Lib.hid (show L.take (k + 1) = L.take k ++ [L[k]] from List.take_succ_eq_append_getElem hlk)
   have hT : okT L[k] := hok _ (List.getElem_mem hlk)
   have hM : L[k] ∈ L := List.getElem_mem hlk
   obtain ⟨ad, A, ea, eA, hA0⟩ := h0.six hlk
   have hA := hA0.ee hw0
   generalize L[k] = T at *
   have hAw : A.block < wr.heap.size := hA.1
   clear hA0
   obtain ⟨t6, t0, t1, t2, t3, t4, t5⟩ := hA.facts
   have Fp := Bp.facts
   go_wp2_with fail
   refine zA1 fun W9 hW => ?_
   have h9 : Below wr.heap.size wr W9 := by rw [hW]; go_grown
   clear hW
   refine (flanked_any mb b E T hT p _ (Bm.ext ((upB hw h9)) rfl) (Hm.ext ((upB hw h9)) rfl)).mono ?_
   rintro e w8 ⟨rfl, hb⟩
   have h8 : Below wr.heap.size wr w8 := (upB h9 hb)
   clear hb h9 t6 t0 t1 t2 t3 t4 t5 Fp
   replace Bp := Bp.ee h8
   have hw8 := (upB hw h8)
   have hw08 := (upB hw0 h8)
   cases hf : flkK E T p 3 with
   | false =>
    go_wp2_with fail
    go_ret
    refine ⟨?_, hw8⟩
    rw [hc.out, show L.all (fun T => flkK E T p 3) = false from by rw [List.all_eq_false]; exact ⟨T, hM, by rw [hf]; decide⟩]
    rfl
   | true =>
    go_wp2_with fail
    rw [← ea]
    go_roundw
    case rel =>
     refine ⟨k + 1, by go_num, by omega, Lib.hid ?_, Bp, hw8, hw08⟩
     intro T2 h2
     rw [HN.out, List.mem_append] at h2
     rcases h2 with h2 | h2
     ·exact HF.out T2 h2
     ·rw [List.mem_singleton] at h2
      rw [h2]; exact hf
    case measure => simp [intOf]; omega
attribute [local go_sem] rmap_nil
def rflk1 (E : Es) (p x y : Pt) : Bool := !((peqI x.x x.y p.x p.y || peqI y.x y.y p.x p.y) && !(lftE E y x).2)
def crN (T : Tri3) : Nat → Pt
 | 0 => T.A
 | 1 => T.B
 | 2 => T.C
 | _ => T.A
def rflkK (E : Es) (T : Tri3) (p : Pt) : Nat → Bool
 | 0 => true
 | k + 1 => rflkK E T p k && rflk1 E p (crN T k) (crN T (k + 1))
end Go.Proofs.YtmobnmjjmafibaaGreat
namespace Go.Proofs.YtmobnmjjmafibaaGreat
open Go.RowKit Go.Sort
attribute [local go_sem] rOper rAt rUpon cell_set sg_i64 sg_u64 alloc_cell alloc_frozen
attribute [local go_sem 10000] pt_eql pt_neq tri_eql
attribute [local irreducible] rWalk
theorem lft_same {E F : Es} {L : List Tri3} (h : Good E L) (g : Good F L) (a b : Pt) : lftE E a b = lftE F a b := by
 cases e : getE E (a, b) with
 | none => rw [zBq e, zBq (g.get_none.2 (h.get_none.1 e))]
 | some T => rw [zB5 e, zB5 (g.get.2 (h.get.1 e))]
theorem acr_same {E F : Es} {L : List Tri3} (h : Good E L) (g : Good F L) {T : Tri3} (hT : T ∈ L) (i : Int) : acrE E T i = lftE F (crn T (i + 1)) (crn T i) := by
 unfold acrE
 rw [if_pos (h.has.2 hT), lft_same h g]
theorem zIz {E F : Es} {L : List Tri3} (h : Good E L) (g : Good F L) {T : Tri3} (hT : T ∈ L) (p : Pt) : flkK E T p 3 = rflkK F T p 3 := by
 have e : ∀ (i : Int) (x y : Pt), crn T i = x → crn T (i + 1) = y → flk1 E T p i = rflk1 F p x y := fun i x y hx hy => by
  unfold flk1 rflk1
  rw [acr_same h g hT, hx, hy]
  cases peqI x.x x.y p.x p.y <;> cases peqI y.x y.y p.x p.y <;> simp
 unfold flkK flkK flkK flkK rflkK rflkK rflkK rflkK
 rw [e (0 : Nat) (crN T 0) (crN T (0 + 1)) rfl rfl, e ((0 + 1 : Nat) : Int) (crN T (0 + 1)) (crN T (0 + 1 + 1)) rfl rfl, e ((0 + 1 + 1 : Nat) : Int) (crN T (0 + 1 + 1)) (crN T (0 + 1 + 1 + 1)) rfl rfl]
theorem zB9 {E : Es} {L : List Tri3} (h : Good E L) {p : Pt} {T : Tri3} : T ∈ starW E p ↔ T ∈ L ∧ isCb p T = true := by
 unfold starW
 rw [(zAd _).mem_iff, (zAy h (isCb p)).mem_iff, List.mem_filter]
theorem lft_there {F : Es} {L : List Tri3} (g : Good F L) (a b : Pt) : (lftE F a b).2 = true ↔ (a, b) ∈ L.flatMap ways := by
 cases e : getE F (a, b) with
 | none => rw [zBq e]; have := g.get_none.1 e; simp only [Bool.false_eq_true, false_iff]; exact this
 | some T => rw [zB5 e]; have := g.get.1 e; simp only [true_iff]; exact List.mem_flatMap.2 ⟨T, this.1, this.2⟩
theorem zGv {F : Es} {L : List Tri3} (g : Good F L) (p x y : Pt) : rflk1 F p x y = true ↔ (x = p ∨ y = p → (y, x) ∈ L.flatMap ways) := by
 unfold rflk1
 rw [← lft_there g, ← zBi (p := x) (q := p), ← zBi (p := y) (q := p)]
 cases peqI x.x x.y p.x p.y <;> cases peqI y.x y.y p.x p.y <;> cases (lftE F y x).2 <;> simp
theorem zH9 {F : Es} {L : List Tri3} (g : Good F L) (p : Pt) (T : Tri3) : rflkK F T p 3 = true ↔ ∀ w ∈ ways T, w.1 = p ∨ w.2 = p → (w.2, w.1) ∈ L.flatMap ways := by
 unfold rflkK rflkK rflkK rflkK
 rw [Bool.and_eq_true, Bool.and_eq_true, Bool.and_eq_true, zGv g, zGv g, zGv g]
 unfold ways
 simp only [List.forall_mem_cons, crN]
 constructor
 ·rintro ⟨⟨⟨_, h0⟩, h1⟩, h2⟩
  exact ⟨h0, h1, h2, by simp⟩
 ·rintro ⟨h0, h1, h2, _⟩
  exact ⟨⟨⟨trivial, h0⟩, h1⟩, h2⟩
theorem closed_iff {E : Es} {L : List Tri3} (h : Good E L) (p : Pt) : closedW E p = true ↔ allBack L p ∧ someC L p := by
 unfold closedW
 rw [Bool.and_eq_true, List.all_eq_true, decide_eq_true_iff]
 constructor
 ·rintro ⟨h1, h2⟩
  refine ⟨fun w hw hp => ?_, ?_⟩
  ·obtain ⟨T, hT, hwT⟩ := List.mem_flatMap.1 hw
   have hc : isCb p T = true := by
    rw [zC1]
    unfold ways at hwT
    simp only [List.mem_cons, List.not_mem_nil, or_false] at hwT
    rcases hwT with rfl | rfl | rfl <;> rcases hp with hp | hp <;> (have hp2 := hp.symm; simp [hp2, isCnr])
   have k := h1 T ((zB9 h).2 ⟨hT, hc⟩)
   rw [zIz h h hT, zH9 h] at k
   exact k w hwT hp
  ·obtain ⟨T, hT⟩ := List.exists_mem_of_length_pos h2
   have k := (zB9 h).1 hT
   exact ⟨T, k.1, zC1.1 k.2⟩
 ·rintro ⟨h1, T, hT, hc⟩
  refine ⟨fun S hS => ?_, List.length_pos_of_mem ((zB9 h).2 ⟨hT, zC1.2 hc⟩)⟩
  have hSL := ((zB9 h).1 hS).1
  rw [zIz h h hSL, zH9 h]
  exact fun w hw hp => h1 w (List.mem_flatMap.2 ⟨S, hSL, hw⟩) hp
theorem zDj {W H : Int} {E : Es} {L : List Tri3} (h : Good E L) (t : Tiles W H L) {p : Pt} (hc : someC L p) : closedW E p = true ↔ ¬ atRim W H p := by
 rw [closed_iff h]
 exact ⟨fun k hr => t.open hr hc k.1, fun k => ⟨t.back k, hc⟩⟩
theorem star_none {E : Es} {L : List Tri3} (h : Good E L) {p : Pt} (hc : ¬ someC L p) : starW E p = [] ∧ closedW E p = false := by
 have e : starW E p = [] := List.eq_nil_iff_forall_not_mem.2 fun T hT => hc ⟨T, ((zB9 h).1 hT).1, zC1.1 ((zB9 h).1 hT).2⟩
 refine ⟨e, ?_⟩
 unfold closedW; rw [e]; rfl
section
variable {W H : Int} {E : Es} {L : List Tri3} {p : Pt} (h : Good E L) (t : Tiles W H L) (hW' : W < 16777216) (hH' : H < 16777216)
include h t hW' hH'
theorem zK4 (hp : inBox W H p) (hc : someC L p) : atE E p = starW E p := by
 have k := zI3 hW' hH' h hp
 refine wholeT.srt_of_perm ((zAy h _).trans (List.Perm.trans ?_ (zAy h (isCb p)).symm))
 refine List.Perm.of_eq (List.filter_congr fun T hT => ?_)
 rw [Bool.eq_iff_iff, k.2 T hT, zC1]
 obtain ⟨S, hS, hcS⟩ := hc
 exact ⟨fun hh => t.cnr_all hS hT hcS hh, fun hh => (zJ8 (t.pos T hT) hh).1⟩
theorem at_rest (hW : 0 < W) (hH : 0 < H) (hp : inBox W H p) (hc : ¬ someC L p) : (∃ T ∈ L, atE E p = [T] ∧ (insT T p ∨ atRim W H p)) ∨ ((atE E p).length = 2 ∧ ¬ atRim W H p) := by
 have k := zI3 hW' hH' h hp
 obtain ⟨F, hF, hpF, _⟩ := t.spots hW hH hp (fun T hT hh => hc ⟨T, hT, hh⟩) k.2
 have hA : (atE E p).Perm F := ((zAd _).trans (zAy h _)).trans hpF
 have box : ∀ {T : Tri3} {a b c : Pt}, T ∈ L → Cyc T a b c → 0 < det a b c ∧ inBox W H a ∧ inBox W H b := fun {T a b c} hT hy => by
  obtain ⟨b1, b2, b3⟩ := t.box T hT
  have h0 := t.pos T hT
  rcases hy with ⟨rfl, rfl, rfl⟩ | ⟨rfl, rfl, rfl⟩ | ⟨rfl, rfl, rfl⟩
  ·exact ⟨h0, b1, b2⟩
  ·exact ⟨by rw [zAf]; exact h0, b2, b3⟩
  ·exact ⟨by rw [← zAf]; exact h0, b3, b1⟩
 cases hF with
 | within T hT hi => exact .inl ⟨T, hT, List.perm_singleton.1 hA, .inl hi⟩
 | rim T a b c hT hy he hr =>
  obtain ⟨h1, h2, h3⟩ := box hT hy
  exact .inl ⟨T, hT, List.perm_singleton.1 hA, .inr ((zHu h1 h2 h3 he).2 hr)⟩
 | edge T S a b c d hT hS hy hy2 he hr =>
  obtain ⟨h1, h2, h3⟩ := box hT hy
  exact .inr ⟨hA.length_eq, fun k => hr ((zHu h1 h2 h3 he).1 k)⟩
end
theorem at_out {W H : Int} {E : Es} {L : List Tri3} {p : Pt} (h : Good E L) (t : Tiles W H L) (hW' : W < 16777216) (hH' : H < 16777216) (hW : 0 < W) (hH : 0 < H) : atE E p = [] ↔ ¬ inBox W H p :=
 ⟨fun e hp => zJf hW' hH' h t hW hH hp e, fun hp => zK5 h t hp⟩
end Go.Proofs.YtmobnmjjmafibaaGreat
