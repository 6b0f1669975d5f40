/- Put together: CdtP, CdtQ, Blt6, RowI, MesVb, MesVc, MesWb, MesWc, MbA, MesY, Float, Tail, Once, MesZ, MrB, MbB. -/
import Derived.Test.YtmobnmjjmafibaaGreatRows
import Derived.Test.YtmobnmjjmafibaaGreatPub3
import Derived.Test.YtmobnmjjmafibaaGreatPub8
import Derived.Test.YtmobnmjjmafibaaGreatPub6
import Derived.Test.YtmobnmjjmafibaaGreatPub5
import Derived.Test.YtmobnmjjmafibaaGreatPub0
import Derived.WalkKit
import Derived.WalkSpells
import Derived.WalkLawsBesides
import Derived.Laws.Externs
import Derived.Deep.QuietTactic
import Derived.BigQuiet
import Derived.Lib.Hide
import Derived.Handy
import Derived.OwnWalk
import Derived.LoopN
import Derived.RegionTactic
import Derived.Deep.Slices
import Derived.Carry
import Derived.ProofKit
import Derived.Lib.SmallJoins
import Derived.Test.YtmobnmjjmafibaaGreatPub7
import Derived.Test.YtmobnmjjmafibaaGreatPub4
import Derived.Deep.Cut
import Derived.Deep.CutBlock
set_option maxRecDepth 100000
set_option maxHeartbeats 8000000
namespace Go.Proofs.YtmobnmjjmafibaaGreat
open Go.RowKit Go.Sort
attribute [local go_sem] rOper rAt rUpon cell_set sg_i64 sg_u64 alloc_cell alloc_frozen
attribute [local go_sem 10000] pt_eql pt_neq tri_eql
attribute [local irreducible] rWalk
def eff5 (c0 c1 c2 c3 c4 : Value) (b : Nat) (w : World) : World := ((((w.setCell ⟨b, 0, none⟩ c0).setCell ⟨b, 1, none⟩ c1).setCell ⟨b, 2, none⟩ c2).setCell ⟨b, 3, none⟩ c3).setCell ⟨b, 4, none⟩ c4
theorem zEu {c0 c1 c2 c3 c4 z : Value} {T : TypeId} (w : World) (b : Nat) (h : w.heap[b]? = some (.cells [z, z, z, z, z].toArray T)) : (eff5 c0 c1 c2 c3 c4 b w).heap[b]? = some (.cells [c0, c1, c2, c3, c4].toArray T) ∧ (∀ B, B ≤ b → Below B w (eff5 c0 c1 c2 c3 c4 b w)) := by
 have B0 : Box w b [z, z, z, z, z] T := h
 exact ⟨((((B0.set 0 c0).set 1 c1).set 2 c2).set 3 c3).set 4 c4, fun B hB => (((((Below.refl B w).setCell hB _).setCell hB _).setCell hB _).setCell hB _).setCell hB _⟩
theorem rsquare_any (W H : Int) (w : World) :
    Calls Tryz.prog 67 #[.int .i64 W, .int .i64 H] w fun e w' => e = .returned (.agg #[.int .i64 0, .int .i64 0, .int .i64 W, .int .i64 0, .int .i64 W, .int .i64 H, .int .i64 0, .int .i64 H]) ∧ Below w.heap.size w w' := by
 go_enter Tryz.func67, Tryz.ntmps67
 go_wp2_with fail
 generalize hW : w.alloc (.cells #[.int .i64 0, .int .i64 0, .int .i64 W, .int .i64 0, .int .i64 W, .int .i64 H, .int .i64 0, .int .i64 H] 98) = W1
 have Bq : Box W1 w.heap.size [.int .i64 0, .int .i64 0, .int .i64 W, .int .i64 0, .int .i64 W, .int .i64 H, .int .i64 0, .int .i64 H] 98 := by rw [← hW]; exact Box.new rfl
 have hw : Below w.heap.size w W1 := by rw [← hW]; go_grown
 clear hW
 have Fq := Bq.f
 refine bodyPost_ret (v := .agg #[.int .i64 0, .int .i64 0, .int .i64 W, .int .i64 0, .int .i64 W, .int .i64 H, .int .i64 0, .int .i64 H]) (by simp [results, Tryz.results67, go_sem, Fq]) rfl ⟨rfl, hw⟩
def sqP (W H : Int) (k : Nat) : Pt := if k % 4 = 0 then ⟨0, 0⟩ else if k % 4 = 1 then ⟨W, 0⟩ else if k % 4 = 2 then ⟨W, H⟩ else ⟨0, H⟩
def sqW (W H : Int) (k : Nat) : Wl := mkW (sqP W H k) (sqP W H (k + 1)) 2
theorem zC7 (a b : Pt) : 0 ≤ (mkW a b 2).K ∧ (mkW a b 2).K ≤ 2 := by
 unfold mkW; split <;> simp
def NewCPost (W H : Int) (w : World) (e : Ending) (w' : World) : Prop :=
 ∃ cb mb b db v E L D, e = .returned (.pointer (some ⟨cb, 0, none⟩)) ∧ CdtAt w' cb mb b db v W H E D ∧ CInv W H E L D ∧ L.length = 2 ∧ (∀ q, someC L q ↔ q = ⟨0, 0⟩ ∨ q = ⟨W, 0⟩ ∨ q = ⟨W, H⟩ ∨ q = ⟨0, H⟩) ∧ D.Perm [sqW W H 0, sqW W H 1, sqW W H 2, sqW W H 3] ∧ Below w.heap.size w w' ∧ w.heap.size ≤ b ∧ w.heap.size ≤ db ∧ w.heap.size ≤ mb ∧ w.heap.size ≤ cb
theorem rnewcdt_any (W H : Int) (hW0 : 0 < W) (hH0 : 0 < H) (hW : W < 16777216) (hH : H < 16777216) (w : World) :
    Calls Tryz.prog 30 #[.int .i64 W, .int .i64 H] w (NewCPost W H w) := by
 have k1 : decide (W < 1) = false := by simp; omega
 have k2 : decide (16777216 ≤ W) = false := by simp; omega
 have k3 : decide (H < 1) = false := by simp; omega
 have k4 : decide (16777216 ≤ H) = false := by simp; omega
 have vb : ∀ q, inBox W H q → vld q = true := fun q hq => by rw [zAr]; unfold inBox at hq; omega
 have v0 : vld (⟨0, 0⟩ : Pt) = true := vb _ (by unfold inBox; simp only; omega)
 have v1 : vld (⟨W, 0⟩ : Pt) = true := vb _ (by unfold inBox; simp only; omega)
 have v2 : vld (⟨W, H⟩ : Pt) = true := vb _ (by unfold inBox; simp only; omega)
 have v3 : vld (⟨0, H⟩ : Pt) = true := vb _ (by unfold inBox; simp only; omega)
 have pWH := Int.mul_pos hW0 hH0
 have d1 : 0 < det (⟨0, 0⟩ : Pt) ⟨W, 0⟩ ⟨W, H⟩ := by
  have : det (⟨0, 0⟩ : Pt) ⟨W, 0⟩ ⟨W, H⟩ = W * H := by unfold det; grind
  omega
 have d2 : 0 < det (⟨0, 0⟩ : Pt) ⟨W, H⟩ ⟨0, H⟩ := by
  have : det (⟨0, 0⟩ : Pt) ⟨W, H⟩ ⟨0, H⟩ = W * H := by unfold det; grind
  omega
 obtain ⟨cX, vX⟩ := zB2 v0 v1 v2 d1
 obtain ⟨cY, vY⟩ := zB2 v0 v2 v3 d2
 have tS := tiles_square hW0 hH0 cX cY
 have o1 : ¬ ori (⟨0, 0⟩ : Pt) ⟨W, 0⟩ ⟨W, H⟩ = 0 := by rw [ori_v v0 v1 v2, zBk]; omega
 have o2 : ¬ ori (⟨0, 0⟩ : Pt) ⟨W, H⟩ ⟨0, H⟩ = 0 := by rw [ori_v v0 v2 v3, zBk]; omega
 have c1 := zBn ⟨0, 0⟩ ⟨W, 0⟩ ⟨W, H⟩
 have c2 := zBn ⟨0, 0⟩ ⟨W, H⟩ ⟨0, H⟩
 rw [show (!decide (ori (⟨0, 0⟩ : Pt) ⟨W, 0⟩ ⟨W, H⟩ = 0)) = true by simp [o1]] at c1
 rw [show (!decide (ori (⟨0, 0⟩ : Pt) ⟨W, H⟩ ⟨0, H⟩ = 0)) = true by simp [o2]] at c2
 dsimp only at c1 c2
 have HC := Lib.hid (show ∀ q, someC [mk ⟨0, 0⟩ ⟨W, 0⟩ ⟨W, H⟩, mk ⟨0, 0⟩ ⟨W, H⟩ ⟨0, H⟩] q ↔ q = ⟨0, 0⟩ ∨ q = ⟨W, 0⟩ ∨ q = ⟨W, H⟩ ∨ q = ⟨0, H⟩ from fun q => by
  simp only [zDg, cX.cnr_iff, cY.cnr_iff, iff_false_intro (zEo q), or_false]
  constructor
  ·rintro ((k | k | k) | (k | k | k)) <;> simp [k]
  ·rintro (k | k | k | k) <;> simp [k])
 generalize mk ⟨0, 0⟩ ⟨W, 0⟩ ⟨W, H⟩ = X at *
 generalize mk ⟨0, 0⟩ ⟨W, H⟩ ⟨0, H⟩ = Y at *
 have hok : ∀ T ∈ [X, Y], okT T := fun T hT => by
  simp only [List.mem_cons, List.not_mem_nil, or_false] at hT
  rcases hT with rfl | rfl
  ·exact zBx vX
  ·exact zBx vY
 have gp := Good.puts (I := [X, Y]) (E := []) (M := []) ⟨.refl _, List.nodup_nil, fun T hT => by cases hT⟩ (fun T hT => by
  simp only [List.mem_cons, List.not_mem_nil, or_false] at hT
  rcases hT with rfl | rfl
  ·exact vX
  ·exact vY) tS.once
 have cn := fun a w0 R => rnew_any a 2 2 [X, Y] (Lib.hid rfl) (by omega) hok w0 R
 have HT := Lib.hid tS
 have HG := Lib.hid gp
 have cs := rsquare_any W H
 clear v0 v1 v2 v3 vb d1 d2 o1 o2 cX cY vX vY hok tS gp pWH
 go_enter Tryz.func30, Tryz.ntmps30
 go_wp2_with fail
 refine (cs _).mono ?_
 rintro e w1 ⟨rfl, hb⟩
 have hw := hb
 clear hb
 go_wp2_with fail
 refine zA1 fun W2 hW => ?_
 obtain ⟨bkq, hbq⟩ : ∃ b, w1.heap.size = b := ⟨_, rfl⟩
 rw [hbq]
 have fq := hw.size
 rw [hbq] at fq
 have Bq : Box W2 bkq [.int .i64 0, .int .i64 0, .int .i64 W, .int .i64 0, .int .i64 W, .int .i64 H, .int .i64 0, .int .i64 H] 98 := by rw [hW]; exact Box.new hbq.symm
 replace hw : Below w.heap.size w W2 := by have hl := hw.size; rw [hW]; go_grown
 clear hW hbq
 refine (c1 _).mono ?_
 rintro e w3 ⟨rfl, hb⟩
 replace Bq := Bq.ee hb
 replace hw := upB hw hb
 clear hb
 have Fq := Bq.f
 go_wp2_with fail
 clear Fq
 refine zA1 fun W4 hW => ?_
 obtain ⟨bkx, hbx⟩ : ∃ b, w3.heap.size = b := ⟨_, rfl⟩
 rw [hbx]
 have lqx := Bq.lt
 rw [hbx] at lqx
 have fx := hw.size
 rw [hbx] at fx
 have Bx : Box W4 bkx [.int .i64 X.A.x, .int .i64 X.A.y, .int .i64 X.B.x, .int .i64 X.B.y, .int .i64 X.C.x, .int .i64 X.C.y] 38 := by rw [hW]; exact Box.new hbx.symm
 replace Bq : Box W4 (bkq) [.int .i64 0, .int .i64 0, .int .i64 W, .int .i64 0, .int .i64 W, .int .i64 H, .int .i64 0, .int .i64 H] 98 := by rw [hW]; exact Bq.old _
 replace hw : Below w.heap.size w W4 := by have hl := hw.size; rw [hW]; go_grown
 clear hW hbx
 refine (c2 _).mono ?_
 rintro e w5 ⟨rfl, hb⟩
 replace Bq := Bq.ee hb
 replace Bx := Bx.ee hb
 replace hw := upB hw hb
 clear hb
 have Fq := Bq.f
 have Fx := Bx.f
 go_wp2_with fail
 clear Fq Fx
 refine zA1 fun W9 hW => ?_
 have R1 : RowAt cT 6 W9 (some ⟨w5.heap.size + 1, 0, none⟩) [X, Y] := zBp (S := [X, Y]) (by rw [hW]; exact Box.new (by simp))
 have Bq9 : Box W9 bkq [.int .i64 0, .int .i64 0, .int .i64 W, .int .i64 0, .int .i64 W, .int .i64 H, .int .i64 0, .int .i64 H] 98 := by rw [hW]; exact (Bq.old _).old _
 replace hw : Below w.heap.size w W9 := by have := hw.size; rw [hW]; go_grown
 have lq := Bq.lt
 have lq9 := Bq9.lt
 clear hW Bq Bx
 refine (cn _ _ R1).mono ?_
 rintro e w10 hpost
 unfold RNewPost at hpost
 obtain ⟨mb, b, rfl, BM, HM, hbl, hml, hb, _⟩ | ⟨_, _, h⟩ := hpost
 rotate_left
 ·exact absurd h (by rw [HG.out.1]; simp)
 have Bq10 := Bq9.ee hb
 have hw10 := (upB hw hb)
 have hl1 := hw.size
 replace hbl := Nat.le_trans hl1 hbl
 replace hml := Nat.le_trans hl1 hml
 have lm := BM.lt
 have lb := HM.lt
 have lq10 := Bq10.lt
 generalize (putRun [] [X, Y]).2 = E at *
 have HG := Lib.hid HG.out.2
 clear hb cn R1 Bq9 hw c1 c2 cs
 go_wp2
 refine zA2 fun W11 hW => ?_
 have So : DocAt W11 w10.heap.size (.slice none 0 0) [] := ⟨by rw [hW]; exact (Box.new rfl).old _, World.ownsRow_nil _ _ _ _, by simp [Value.ownBlock], by simp⟩
 have Bc : Box W11 (w10.heap.size + 1) [.int .i64 W, .int .i64 H, .pointer (some ⟨mb, 0, none⟩), .pointer (some ⟨w10.heap.size, 0, none⟩)] 45 := by rw [hW]; exact Box.new (by simp)
 have Bq : Box W11 bkq [.int .i64 0, .int .i64 0, .int .i64 W, .int .i64 0, .int .i64 W, .int .i64 H, .int .i64 0, .int .i64 H] 98 := by rw [hW]; exact (Bq10.old _).old _
 have Bm : Box W11 mb [.map (some b)] 41 := by rw [hW]; exact (BM.old _).old _
 have Hm : HoldsMap eW eT okW W11 b E := by rw [hW]; exact (HM.alloc _).alloc _
 have hw : Below w.heap.size w W11 := by have := hw10.size; rw [hW]; go_grown
 have hws := hw10.size
 clear hW BM HM Bq10 hw10
 obtain ⟨db, hdb⟩ : ∃ db, w10.heap.size = db := ⟨_, rfl⟩
 rw [hdb] at So Bc lm lb lq10 hws
 rw [hdb]
 clear hdb
 have HP0 := Lib.hid (show ([] : List Wl).Perm ((List.range 0).map (sqW W H)) from .refl _)
 go_loopw [11] (fun v11 wr => ∃ (k : Nat) (j : Int) (v : Value) (D : List Wl), k ≤ 4 ∧ v11 = .int .i64 j ∧ Hid (j = k) ∧ DocAt wr db v D ∧ Hid (D.Perm ((List.range k).map (sqW W H))) ∧ Box wr bkq [.int .i64 0, .int .i64 0, .int .i64 W, .int .i64 0, .int .i64 W, .int .i64 H, .int .i64 0, .int .i64 H] 98 ∧ Box wr (db + 1) [.int .i64 W, .int .i64 H, .pointer (some ⟨mb, 0, none⟩), .pointer (some ⟨db, 0, none⟩)] 45 ∧ Box wr mb [.map (some b)] 41 ∧ HoldsMap eW eT okW wr b E ∧ Below w.heap.size w wr) (fun v11 _ => 4 - (intOf v11).toNat)
 case atStart => exact ⟨0, 0, _, [], by omega, rfl, Lib.hid rfl, So, HP0, Bq, Bc, Bm, Hm, hw⟩
 case round =>
  clear So Bq Bc Bm Hm hw HP0
  obtain ⟨k, j, v, D, hk, rfl, hj, So, HP, Bq, Bc, Bm, Hm, hw⟩ := hrel
  have hk' : k = 0 ∨ k = 1 ∨ k = 2 ∨ k = 3 ∨ k = 4 := by omega
  rcases hk' with rfl | rfl | rfl | rfl | rfl
  ·have hj : j = 0 := by simpa using hj.out
   subst hj
   have cw := zHn ⟨0, 0⟩ ⟨W, 0⟩ 2
   have HZ := Lib.hid (show (List.range (0 + 1)).map (sqW W H) = (List.range 0).map (sqW W H) ++ [mkW ⟨0, 0⟩ ⟨W, 0⟩ 2] by rw [List.range_succ, List.map_append]; rfl)
   have hZk := zC7 ⟨0, 0⟩ ⟨W, 0⟩
   dsimp only at cw
   generalize mkW ⟨0, 0⟩ ⟨W, 0⟩ 2 = Z at *
   generalize mkOk ⟨0, 0⟩ ⟨W, 0⟩ 2 = zk at *
   have hq1 : IntKind.i64.wrap (0 + 1) = 1 := by decide
   have hq2 : IntKind.i64.wrap 1 = 1 := by decide
   have Fq := Bq.f
   have Fc := Bc.f
   go_wp2_with fail
   have gq := Bq.cells
   have gc := Bc.cells
   refine zA3 12 12 75 [.int .i64 Z.A.x, .int .i64 Z.A.y, .int .i64 Z.B.x, .int .i64 Z.B.y, .int .i64 Z.K] (zs := [.int .i64 0, .int .i64 0, .int .i64 0, .int .i64 0, .int .i64 0]) (eff := eff5 (.int .i64 Z.A.x) (.int .i64 Z.A.y) (.int .i64 Z.B.x) (.int .i64 Z.B.y) (.int .i64 Z.K)) zEu rfl rfl rfl rfl rfl rfl rfl (by simp) (fun ρ W => by simp [execOp, go_sem]; rfl) (by kernel_rfl) (by as_aux_lemma => kernel_rfl) (C := fun w' => ∃ p : Regrown, w' = grow (redrawn wr p.d) p.os) rgB ?_ (fun ρ W b e1 e2 hB => by obtain ⟨x, y, _, _⟩ := hB.f; simp [execOp, go_sem, e1, e2, x, y, eff5])
   simp only [tK1, tK0, dP1, dP0]
   repeat (first | (refine zA0 (Eq.refl false) ?_; simp only [Act.put, sT2, sT1, sT0]) | (refine rWalk_step (fun K hK => ?_); go_simp; first | (refine hK _ ?_; clear hK K) | (apply Exists.intro; refine ⟨fun _ => ?_, hK _ ?_⟩; (first | with_reducible exact toExt cw _); clear hK K)))
   refine rWalk_nil ⟨rfl, ?_⟩
   intro w41 bkz hb h1b h2b Bz
   have lqz := Bq.lt
   have lcz := Bc.lt
   have hw0z := hw.size
   clear gq gc
   clear Fq Fc
   replace Bq := Bq.ee hb
   replace Bc := Bc.ee hb
   replace hw := upB hw hb
   have fz := h1b
   have hwz : w.heap.size ≤ wr.heap.size := hw0z
   replace So := So.ee hb
   replace Bm := Bm.ee hb
   replace Hm := Hm.ee hb
   clear hb h1b h2b hw0z
   simp only [Act.put]
   have Fq := Bq.f
   have Fc := Bc.f
   have Fz := Bz.f
   go_wp2_with fail
   clear Fq Fc Fz
   have gc := Bc.cells
   have gz := Bz.cells
   refine wp_region_tail 5 (by kernel_rfl) (by kernel_rfl) (C := fun w' => ∃ p : Regrown, w' = grow (redrawn w41 p.d) p.os) rgB ?_
   simp only [tK1, tK0, dP1, dP0]
   repeat (first | (refine zA0 (Eq.refl false) ?_; simp only [Act.put, sT2, sT1, sT0]) | (refine rWalk_step (fun K hK => ?_); go_simp; first | (refine hK _ ?_; clear hK K) | (apply Exists.intro; refine ⟨fun _ => ?_, hK _ ?_⟩; (first | fail); clear hK K)))
   refine rWalk_nil ?_
   intro w60 hb
   clear gc gz
   replace So := So.ee hb
   replace Bm := Bm.ee hb
   replace Hm := Hm.ee hb
   replace Bq := Bq.ee hb
   replace Bc := Bc.ee hb
   replace hw := upB hw hb
   clear hb Bz
   have hlD : D.length = 0 := by have := HP.out.length_eq; simpa using this
   have hkD : ∀ x ∈ D, 0 ≤ x.K ∧ x.K ≤ 2 := fun x hx => by
    obtain ⟨i, _, rfl⟩ := List.mem_map.1 (HP.out.mem_iff.1 hx)
    exact zC7 _ _
   have cp := zD5 db v D Z (by omega) hkD hZk w60 So
   clear hlD hkD
   go_wp2_with fail
   refine cp.mono ?_
   rintro e w61 ⟨kp, v', rfl, hk5, So5, hf5, hv5⟩
   have hdw : w.heap.size ≤ db := hws
   have hbd : (some b) ≠ (some db) := fun e => So.box.ne_map Hm (Option.some.inj e).symm
   have Bq5 := hf5.box Bq (by omega)
   have Bc5 := hf5.box Bc (by omega)
   have Bm5 := hf5.box Bm (by omega)
   have Hm5 := Hm.kept hf5.grown hbd
   have hw5 := hw.trans (hf5.below (n := w.heap.size) (fun k hk => by rw [hk]; exact hdw) hw.size)
   have HP5 := Lib.hid (show (D.take kp ++ Z :: D.drop kp).Perm ((List.range (0 + 1)).map (sqW W H)) by
    rw [HZ.out]
    exact (zE1 kp).trans ((HP.out.cons _).trans (List.perm_append_comm (l₁ := [Z]))))
   clear cp HP HZ hk5 hf5 hv5 So Bq Bc Bm Hm hw
   go_wp2
   go_roundw
   case rel => exact ⟨1, 1, v', _, by omega, by first | rfl | go_num, Lib.hid rfl, So5, HP5, Bq5, Bc5, Bm5, Hm5, hw5⟩
   case measure => simp [intOf]
  ·have hj : j = 1 := by simpa using hj.out
   subst hj
   have cw := zHn ⟨W, 0⟩ ⟨W, H⟩ 2
   have HZ := Lib.hid (show (List.range (1 + 1)).map (sqW W H) = (List.range 1).map (sqW W H) ++ [mkW ⟨W, 0⟩ ⟨W, H⟩ 2] by rw [List.range_succ, List.map_append]; rfl)
   have hZk := zC7 ⟨W, 0⟩ ⟨W, H⟩
   dsimp only at cw
   generalize mkW ⟨W, 0⟩ ⟨W, H⟩ 2 = Z at *
   generalize mkOk ⟨W, 0⟩ ⟨W, H⟩ 2 = zk at *
   have hq1 : IntKind.i64.wrap (1 + 1) = 2 := by decide
   have hq2 : IntKind.i64.wrap 2 = 2 := by decide
   have Fq := Bq.f
   have Fc := Bc.f
   go_wp2_with fail
   have gq := Bq.cells
   have gc := Bc.cells
   refine zA3 12 12 75 [.int .i64 Z.A.x, .int .i64 Z.A.y, .int .i64 Z.B.x, .int .i64 Z.B.y, .int .i64 Z.K] (zs := [.int .i64 0, .int .i64 0, .int .i64 0, .int .i64 0, .int .i64 0]) (eff := eff5 (.int .i64 Z.A.x) (.int .i64 Z.A.y) (.int .i64 Z.B.x) (.int .i64 Z.B.y) (.int .i64 Z.K)) zEu rfl rfl rfl rfl rfl rfl rfl (by simp) (fun ρ W => by simp [execOp, go_sem]; rfl) (by kernel_rfl) (by as_aux_lemma => kernel_rfl) (C := fun w' => ∃ p : Regrown, w' = grow (redrawn wr p.d) p.os) rgB ?_ (fun ρ W b e1 e2 hB => by obtain ⟨x, y, _, _⟩ := hB.f; simp [execOp, go_sem, e1, e2, x, y, eff5])
   simp only [tK1, tK0, dP1, dP0]
   repeat (first | (refine zA0 (Eq.refl false) ?_; simp only [Act.put, sT2, sT1, sT0]) | (refine rWalk_step (fun K hK => ?_); go_simp; first | (refine hK _ ?_; clear hK K) | (apply Exists.intro; refine ⟨fun _ => ?_, hK _ ?_⟩; (first | with_reducible exact toExt cw _); clear hK K)))
   refine rWalk_nil ⟨rfl, ?_⟩
   intro w41 bkz hb h1b h2b Bz
   have lqz := Bq.lt
   have lcz := Bc.lt
   have hw0z := hw.size
   clear gq gc
   clear Fq Fc
   replace Bq := Bq.ee hb
   replace Bc := Bc.ee hb
   replace hw := upB hw hb
   have fz := h1b
   have hwz : w.heap.size ≤ wr.heap.size := hw0z
   replace So := So.ee hb
   replace Bm := Bm.ee hb
   replace Hm := Hm.ee hb
   clear hb h1b h2b hw0z
   simp only [Act.put]
   have Fq := Bq.f
   have Fc := Bc.f
   have Fz := Bz.f
   go_wp2_with fail
   clear Fq Fc Fz
   have gc := Bc.cells
   have gz := Bz.cells
   refine wp_region_tail 5 (by kernel_rfl) (by kernel_rfl) (C := fun w' => ∃ p : Regrown, w' = grow (redrawn w41 p.d) p.os) rgB ?_
   simp only [tK1, tK0, dP1, dP0]
   repeat (first | (refine zA0 (Eq.refl false) ?_; simp only [Act.put, sT2, sT1, sT0]) | (refine rWalk_step (fun K hK => ?_); go_simp; first | (refine hK _ ?_; clear hK K) | (apply Exists.intro; refine ⟨fun _ => ?_, hK _ ?_⟩; (first | fail); clear hK K)))
   refine rWalk_nil ?_
   intro w60 hb
   clear gc gz
   replace So := So.ee hb
   replace Bm := Bm.ee hb
   replace Hm := Hm.ee hb
   replace Bq := Bq.ee hb
   replace Bc := Bc.ee hb
   replace hw := upB hw hb
   clear hb Bz
   have hlD : D.length = 1 := by have := HP.out.length_eq; simpa using this
   have hkD : ∀ x ∈ D, 0 ≤ x.K ∧ x.K ≤ 2 := fun x hx => by
    obtain ⟨i, _, rfl⟩ := List.mem_map.1 (HP.out.mem_iff.1 hx)
    exact zC7 _ _
   have cp := zD5 db v D Z (by omega) hkD hZk w60 So
   clear hlD hkD
   go_wp2_with fail
   refine cp.mono ?_
   rintro e w61 ⟨kp, v', rfl, hk5, So5, hf5, hv5⟩
   have hdw : w.heap.size ≤ db := hws
   have hbd : (some b) ≠ (some db) := fun e => So.box.ne_map Hm (Option.some.inj e).symm
   have Bq5 := hf5.box Bq (by omega)
   have Bc5 := hf5.box Bc (by omega)
   have Bm5 := hf5.box Bm (by omega)
   have Hm5 := Hm.kept hf5.grown hbd
   have hw5 := hw.trans (hf5.below (n := w.heap.size) (fun k hk => by rw [hk]; exact hdw) hw.size)
   have HP5 := Lib.hid (show (D.take kp ++ Z :: D.drop kp).Perm ((List.range (1 + 1)).map (sqW W H)) by
    rw [HZ.out]
    exact (zE1 kp).trans ((HP.out.cons _).trans (List.perm_append_comm (l₁ := [Z]))))
   clear cp HP HZ hk5 hf5 hv5 So Bq Bc Bm Hm hw
   go_wp2
   go_roundw
   case rel => exact ⟨2, 2, v', _, by omega, by first | rfl | go_num, Lib.hid rfl, So5, HP5, Bq5, Bc5, Bm5, Hm5, hw5⟩
   case measure => simp [intOf]
  ·have hj : j = 2 := by simpa using hj.out
   subst hj
   have cw := zHn ⟨W, H⟩ ⟨0, H⟩ 2
   have HZ := Lib.hid (show (List.range (2 + 1)).map (sqW W H) = (List.range 2).map (sqW W H) ++ [mkW ⟨W, H⟩ ⟨0, H⟩ 2] by rw [List.range_succ, List.map_append]; rfl)
   have hZk := zC7 ⟨W, H⟩ ⟨0, H⟩
   dsimp only at cw
   generalize mkW ⟨W, H⟩ ⟨0, H⟩ 2 = Z at *
   generalize mkOk ⟨W, H⟩ ⟨0, H⟩ 2 = zk at *
   have hq1 : IntKind.i64.wrap (2 + 1) = 3 := by decide
   have hq2 : IntKind.i64.wrap 3 = 3 := by decide
   have Fq := Bq.f
   have Fc := Bc.f
   go_wp2_with fail
   have gq := Bq.cells
   have gc := Bc.cells
   refine zA3 12 12 75 [.int .i64 Z.A.x, .int .i64 Z.A.y, .int .i64 Z.B.x, .int .i64 Z.B.y, .int .i64 Z.K] (zs := [.int .i64 0, .int .i64 0, .int .i64 0, .int .i64 0, .int .i64 0]) (eff := eff5 (.int .i64 Z.A.x) (.int .i64 Z.A.y) (.int .i64 Z.B.x) (.int .i64 Z.B.y) (.int .i64 Z.K)) zEu rfl rfl rfl rfl rfl rfl rfl (by simp) (fun ρ W => by simp [execOp, go_sem]; rfl) (by kernel_rfl) (by as_aux_lemma => kernel_rfl) (C := fun w' => ∃ p : Regrown, w' = grow (redrawn wr p.d) p.os) rgB ?_ (fun ρ W b e1 e2 hB => by obtain ⟨x, y, _, _⟩ := hB.f; simp [execOp, go_sem, e1, e2, x, y, eff5])
   simp only [tK1, tK0, dP1, dP0]
   repeat (first | (refine zA0 (Eq.refl false) ?_; simp only [Act.put, sT2, sT1, sT0]) | (refine rWalk_step (fun K hK => ?_); go_simp; first | (refine hK _ ?_; clear hK K) | (apply Exists.intro; refine ⟨fun _ => ?_, hK _ ?_⟩; (first | with_reducible exact toExt cw _); clear hK K)))
   refine rWalk_nil ⟨rfl, ?_⟩
   intro w41 bkz hb h1b h2b Bz
   have lqz := Bq.lt
   have lcz := Bc.lt
   have hw0z := hw.size
   clear gq gc
   clear Fq Fc
   replace Bq := Bq.ee hb
   replace Bc := Bc.ee hb
   replace hw := upB hw hb
   have fz := h1b
   have hwz : w.heap.size ≤ wr.heap.size := hw0z
   replace So := So.ee hb
   replace Bm := Bm.ee hb
   replace Hm := Hm.ee hb
   clear hb h1b h2b hw0z
   simp only [Act.put]
   have Fq := Bq.f
   have Fc := Bc.f
   have Fz := Bz.f
   go_wp2_with fail
   clear Fq Fc Fz
   have gc := Bc.cells
   have gz := Bz.cells
   refine wp_region_tail 5 (by kernel_rfl) (by kernel_rfl) (C := fun w' => ∃ p : Regrown, w' = grow (redrawn w41 p.d) p.os) rgB ?_
   simp only [tK1, tK0, dP1, dP0]
   repeat (first | (refine zA0 (Eq.refl false) ?_; simp only [Act.put, sT2, sT1, sT0]) | (refine rWalk_step (fun K hK => ?_); go_simp; first | (refine hK _ ?_; clear hK K) | (apply Exists.intro; refine ⟨fun _ => ?_, hK _ ?_⟩; (first | fail); clear hK K)))
   refine rWalk_nil ?_
   intro w60 hb
   clear gc gz
   replace So := So.ee hb
   replace Bm := Bm.ee hb
   replace Hm := Hm.ee hb
   replace Bq := Bq.ee hb
   replace Bc := Bc.ee hb
   replace hw := upB hw hb
   clear hb Bz
   have hlD : D.length = 2 := by have := HP.out.length_eq; simpa using this
   have hkD : ∀ x ∈ D, 0 ≤ x.K ∧ x.K ≤ 2 := fun x hx => by
    obtain ⟨i, _, rfl⟩ := List.mem_map.1 (HP.out.mem_iff.1 hx)
    exact zC7 _ _
   have cp := zD5 db v D Z (by omega) hkD hZk w60 So
   clear hlD hkD
   go_wp2_with fail
   refine cp.mono ?_
   rintro e w61 ⟨kp, v', rfl, hk5, So5, hf5, hv5⟩
   have hdw : w.heap.size ≤ db := hws
   have hbd : (some b) ≠ (some db) := fun e => So.box.ne_map Hm (Option.some.inj e).symm
   have Bq5 := hf5.box Bq (by omega)
   have Bc5 := hf5.box Bc (by omega)
   have Bm5 := hf5.box Bm (by omega)
   have Hm5 := Hm.kept hf5.grown hbd
   have hw5 := hw.trans (hf5.below (n := w.heap.size) (fun k hk => by rw [hk]; exact hdw) hw.size)
   have HP5 := Lib.hid (show (D.take kp ++ Z :: D.drop kp).Perm ((List.range (2 + 1)).map (sqW W H)) by
    rw [HZ.out]
    exact (zE1 kp).trans ((HP.out.cons _).trans (List.perm_append_comm (l₁ := [Z]))))
   clear cp HP HZ hk5 hf5 hv5 So Bq Bc Bm Hm hw
   go_wp2
   go_roundw
   case rel => exact ⟨3, 3, v', _, by omega, by first | rfl | go_num, Lib.hid rfl, So5, HP5, Bq5, Bc5, Bm5, Hm5, hw5⟩
   case measure => simp [intOf]
  ·have hj : j = 3 := by simpa using hj.out
   subst hj
   have cw := zHn ⟨0, H⟩ ⟨0, 0⟩ 2
   have HZ := Lib.hid (show (List.range (3 + 1)).map (sqW W H) = (List.range 3).map (sqW W H) ++ [mkW ⟨0, H⟩ ⟨0, 0⟩ 2] by rw [List.range_succ, List.map_append]; rfl)
   have hZk := zC7 ⟨0, H⟩ ⟨0, 0⟩
   dsimp only at cw
   generalize mkW ⟨0, H⟩ ⟨0, 0⟩ 2 = Z at *
   generalize mkOk ⟨0, H⟩ ⟨0, 0⟩ 2 = zk at *
   have hq1 : IntKind.i64.wrap (3 + 1) = 4 := by decide
   have hq2 : IntKind.i64.wrap 4 = 4 := by decide
   have Fq := Bq.f
   have Fc := Bc.f
   go_wp2_with fail
   have gq := Bq.cells
   have gc := Bc.cells
   refine zA3 12 12 75 [.int .i64 Z.A.x, .int .i64 Z.A.y, .int .i64 Z.B.x, .int .i64 Z.B.y, .int .i64 Z.K] (zs := [.int .i64 0, .int .i64 0, .int .i64 0, .int .i64 0, .int .i64 0]) (eff := eff5 (.int .i64 Z.A.x) (.int .i64 Z.A.y) (.int .i64 Z.B.x) (.int .i64 Z.B.y) (.int .i64 Z.K)) zEu rfl rfl rfl rfl rfl rfl rfl (by simp) (fun ρ W => by simp [execOp, go_sem]; rfl) (by kernel_rfl) (by as_aux_lemma => kernel_rfl) (C := fun w' => ∃ p : Regrown, w' = grow (redrawn wr p.d) p.os) rgB ?_ (fun ρ W b e1 e2 hB => by obtain ⟨x, y, _, _⟩ := hB.f; simp [execOp, go_sem, e1, e2, x, y, eff5])
   simp only [tK1, tK0, dP1, dP0]
   repeat (first | (refine zA0 (Eq.refl false) ?_; simp only [Act.put, sT2, sT1, sT0]) | (refine rWalk_step (fun K hK => ?_); go_simp; first | (refine hK _ ?_; clear hK K) | (apply Exists.intro; refine ⟨fun _ => ?_, hK _ ?_⟩; (first | with_reducible exact toExt cw _); clear hK K)))
   refine rWalk_nil ⟨rfl, ?_⟩
   intro w41 bkz hb h1b h2b Bz
   have lqz := Bq.lt
   have lcz := Bc.lt
   have hw0z := hw.size
   clear gq gc
   clear Fq Fc
   replace Bq := Bq.ee hb
   replace Bc := Bc.ee hb
   replace hw := upB hw hb
   have fz := h1b
   have hwz : w.heap.size ≤ wr.heap.size := hw0z
   replace So := So.ee hb
   replace Bm := Bm.ee hb
   replace Hm := Hm.ee hb
   clear hb h1b h2b hw0z
   simp only [Act.put]
   have Fq := Bq.f
   have Fc := Bc.f
   have Fz := Bz.f
   go_wp2_with fail
   clear Fq Fc Fz
   have gc := Bc.cells
   have gz := Bz.cells
   refine wp_region_tail 5 (by kernel_rfl) (by kernel_rfl) (C := fun w' => ∃ p : Regrown, w' = grow (redrawn w41 p.d) p.os) rgB ?_
   simp only [tK1, tK0, dP1, dP0]
   repeat (first | (refine zA0 (Eq.refl false) ?_; simp only [Act.put, sT2, sT1, sT0]) | (refine rWalk_step (fun K hK => ?_); go_simp; first | (refine hK _ ?_; clear hK K) | (apply Exists.intro; refine ⟨fun _ => ?_, hK _ ?_⟩; (first | fail); clear hK K)))
   refine rWalk_nil ?_
   intro w60 hb
   clear gc gz
   replace So := So.ee hb
   replace Bm := Bm.ee hb
   replace Hm := Hm.ee hb
   replace Bq := Bq.ee hb
   replace Bc := Bc.ee hb
   replace hw := upB hw hb
   clear hb Bz
   have hlD : D.length = 3 := by have := HP.out.length_eq; simpa using this
   have hkD : ∀ x ∈ D, 0 ≤ x.K ∧ x.K ≤ 2 := fun x hx => by
    obtain ⟨i, _, rfl⟩ := List.mem_map.1 (HP.out.mem_iff.1 hx)
    exact zC7 _ _
   have cp := zD5 db v D Z (by omega) hkD hZk w60 So
   clear hlD hkD
   go_wp2_with fail
   refine cp.mono ?_
   rintro e w61 ⟨kp, v', rfl, hk5, So5, hf5, hv5⟩
   have hdw : w.heap.size ≤ db := hws
   have hbd : (some b) ≠ (some db) := fun e => So.box.ne_map Hm (Option.some.inj e).symm
   have Bq5 := hf5.box Bq (by omega)
   have Bc5 := hf5.box Bc (by omega)
   have Bm5 := hf5.box Bm (by omega)
   have Hm5 := Hm.kept hf5.grown hbd
   have hw5 := hw.trans (hf5.below (n := w.heap.size) (fun k hk => by rw [hk]; exact hdw) hw.size)
   have HP5 := Lib.hid (show (D.take kp ++ Z :: D.drop kp).Perm ((List.range (3 + 1)).map (sqW W H)) by
    rw [HZ.out]
    exact (zE1 kp).trans ((HP.out.cons _).trans (List.perm_append_comm (l₁ := [Z]))))
   clear cp HP HZ hk5 hf5 hv5 So Bq Bc Bm Hm hw
   go_wp2
   go_roundw
   case rel => exact ⟨4, 4, v', _, by omega, by first | rfl | go_num, Lib.hid rfl, So5, HP5, Bq5, Bc5, Bm5, Hm5, hw5⟩
   case measure => simp [intOf]
  ·have hj : j = 4 := by simpa using hj.out
   subst hj
   have gc := Bc.cells
   go_wp2_with fail
   refine wp_region_tail 8 (by kernel_rfl) (by kernel_rfl) (C := fun w' => ∃ p : Regrown, w' = grow (redrawn wr p.d) p.os) rgB ?_
   simp only [tK1, tK0, dP1, dP0]
   repeat (first | (refine zA0 (Eq.refl false) ?_; simp only [Act.put, sT2, sT1, sT0]) | (refine rWalk_step (fun K hK => ?_); go_simp; first | (refine hK _ ?_; clear hK K) | (apply Exists.intro; refine ⟨fun _ => ?_, hK _ ?_⟩; (first | fail); clear hK K)))
   refine rWalk_nil ?_
   intro w60 hb
   clear gc
   have S6 : CdtAt w60 (db + 1) mb b db v W H E D := ⟨Bc.ee hb, Bm.ee hb, Hm.ee hb, So.ee hb, by omega, by omega⟩
   have hw6 := (upB hw hb)
   obtain ⟨a9, c9, hv9, Dr, _⟩ := S6.doc.rd
   have cr := zFf mb b db a9 c9 D.length E [X, Y] D W H hW hH (by simp) HG.out HT.out w60 S6.mesh S6.map Dr
   clear hb So Bq Bc Bm Hm hw hv9 Dr
   go_wp2_with fail
   refine cr.mono ?_
   rintro e w7 ⟨rfl, E2, L2, g5, H5, r5, f5⟩
   have S7 : CdtAt w7 (db + 1) mb b db v W H E2 D := ⟨S6.box.turn S6.map g5, S6.mesh.turn S6.map g5, H5, S6.doc.turn S6.map g5, S6.cdb, S6.mdb⟩
   have hw7 := hw6.grown g5 hw6.size (fun k hk => by cases hk; exact hbl)
   have HI := Lib.hid (show CInv W H E2 L2 D from ⟨r5.good, f5, fun x hx => by
    obtain ⟨i, _, rfl⟩ := List.mem_map.1 (HP.out.mem_iff.1 hx)
    exact zC7 _ _⟩)
   have HL := Lib.hid (show L2.length = 2 by rw [r5.kept.len]; rfl)
   have HQ := Lib.hid (show ∀ q, someC L2 q ↔ q = ⟨0, 0⟩ ∨ q = ⟨W, 0⟩ ∨ q = ⟨W, H⟩ ∨ q = ⟨0, H⟩ from fun q => (r5.kept.cnr q).trans (HC.out q))
   have HP4 := Lib.hid (show D.Perm [sqW W H 0, sqW W H 1, sqW W H 2, sqW W H 3] from HP.out)
   clear cr g5 H5 r5 f5 S6 hw6
   go_wp2
   go_ret
   exact ⟨db + 1, mb, b, db, v, E2, L2, D, rfl, S7, HI.out, HL.out, HQ.out, HP4.out, hw7, hbl, hws, hml, by omega⟩
theorem round_eqC {i n : Int} (hn : 0 < n) (hn2 : n ≤ 4294967296) : (wrap64 (i.tmod n + n)).tmod n = i % n := by
 have h1 : 0 ≤ i % n := Int.emod_nonneg i (by omega)
 have h2 : i % n < n := Int.emod_lt_of_pos i hn
 have h3 : i.tmod n = i % n ∨ i.tmod n = i % n - n := by
  have h := @Int.tmod_eq_emod i n
  split at h
  ·left; omega
  ·right; rw [h]; omega
 have h4 : wrap64 (i.tmod n + n) = i.tmod n + n := by rw [w64]; omega
 rw [h4, Int.tmod_eq_emod_of_nonneg (by omega)]
 rcases h3 with h | h <;> rw [h]
 ·rw [Int.add_emod_right]; exact Int.emod_eq_of_lt h1 h2
 ·rw [show i % n - n + n = i % n by omega]; exact Int.emod_eq_of_lt h1 h2
theorem zIp {i n : Int} (hn : 0 < n) (hn2 : n ≤ 4294967296) (w : World) :
    Calls Tryz.prog 21 #[.int .i64 i, .int .i64 n] w fun e w' => e = .returned (.int .i64 (i % n)) ∧ Below w.heap.size w w' := by
 rw [← round_eqC hn hn2]
 have h0 : (n == 0) = false := by simp; omega
 have h1 : n ≠ 0 := by omega
 go_enter Tryz.func21, Tryz.ntmps21
 go_wp2
 all_goals go_ret
 all_goals exact ⟨rfl, by go_grown⟩
def spt (s n : Int) : Pt := ⟨n % ((s + 1) * (s + 1)) % (s + 1), n % ((s + 1) * (s + 1)) / (s + 1)⟩
theorem zJp {s : Int} (hs : 0 < s) (n : Int) : inBox s s (spt s n) := by
 have hp : 0 < (s + 1) * (s + 1) := Int.mul_pos (by omega) (by omega)
 have h1 := Int.emod_nonneg n (b := (s + 1) * (s + 1)) (by omega)
 have h2 := Int.emod_lt_of_pos n hp
 have h3 := Int.emod_nonneg (n % ((s + 1) * (s + 1))) (b := s + 1) (by omega)
 have h4 := Int.emod_lt_of_pos (n % ((s + 1) * (s + 1))) (b := s + 1) (by omega)
 have h5 : 0 ≤ n % ((s + 1) * (s + 1)) / (s + 1) := Int.ediv_nonneg h1 (by omega)
 have h6 : n % ((s + 1) * (s + 1)) / (s + 1) < s + 1 := Int.ediv_lt_of_lt_mul (by omega) h2
 unfold inBox spt
 simp only
 omega
theorem spot_any (s n : Int) (hs : 0 < s) (hs2 : s ≤ 60) (w : World) :
    Calls Tryz.prog 14 #[.int .i64 s, .int .i64 n] w fun e w' => e = .returned (.agg #[.int .i64 (spt s n).x, .int .i64 (spt s n).y]) ∧ Below w.heap.size w w' := by
 have hp : 0 < (s + 1) * (s + 1) := Int.mul_pos (by omega) (by omega)
 have hp2 : (s + 1) * (s + 1) ≤ 4000 := by
  have := Int.mul_le_mul (a := s + 1) (b := s + 1) (c := 61) (d := 61) (by omega) (by omega) (by omega) (by omega)
  omega
 have cr := zIp (i := n) (n := (s + 1) * (s + 1)) hp (by omega)
 have hk1 := Int.emod_nonneg n (b := (s + 1) * (s + 1)) (by omega)
 have hk2 := Int.emod_lt_of_pos n hp
 have hb := zJp hs n
 have HE := Lib.hid (show spt s n = ⟨n % ((s + 1) * (s + 1)) % (s + 1), n % ((s + 1) * (s + 1)) / (s + 1)⟩ from rfl)
 have hw1 : wrap64 ((s + 1) * (s + 1)) = (s + 1) * (s + 1) := by rw [w64]; omega
 have hk3 : n % ((s + 1) * (s + 1)) < 4000 := by omega
 have HB := Lib.hid hb
 generalize n % ((s + 1) * (s + 1)) = k at *
 have ht1 : Int.tmod k (s + 1) = k % (s + 1) := Int.tmod_eq_emod_of_nonneg hk1
 have ht2 : Int.tdiv k (s + 1) = k / (s + 1) := Int.tdiv_eq_ediv_of_nonneg hk1
 go_enter Tryz.func14, Tryz.ntmps14
 have h5 : 0 ≤ k / (s + 1) := Int.ediv_nonneg hk1 (by omega)
 have h6 : k / (s + 1) ≤ k := Int.ediv_le_self _ hk1
 have h7 := Int.emod_nonneg k (b := s + 1) (by omega)
 have h8 := Int.emod_lt_of_pos k (b := s + 1) (by omega)
 have n0 : s + 1 ≠ 0 := by omega
 have n1 : (s + 1 == 0) = false := by simp; omega
 have n2 : (s + 1 = 0) = False := by simp; omega
 have a1 : IntKind.i64.wrap (s + 1) = s + 1 := by rw [IntKind.wrap_i64]; omega
 have a2 : IntKind.i64.wrap (k / (s + 1)) = k / (s + 1) := by rw [IntKind.wrap_i64]; omega
 have a3 : IntKind.i64.wrap (k % (s + 1)) = k % (s + 1) := by rw [IntKind.wrap_i64]; omega
 have HK := Lib.hid (show True from trivial)
 clear hb hp hp2 hk2 hk3
 go_wp2_with fail
 refine zA1 fun W1 hW => ?_
 have Br : Box W1 w.heap.size [.int .i64 0, .int .i64 0] 30 := by rw [hW]; exact Box.new rfl
 have hw : Below w.heap.size w W1 := by rw [hW]; go_grown
 clear hW
 refine (cr _).mono ?_
 rintro e w2 ⟨rfl, hb⟩
 have Br2 := Br.ee hb
 have hw2 := (upB hw hb)
 clear hb Br hw cr
 have Fr := Br2.f
 go_wp2_with fail
 clear Fr
 have gr := Br2.cells
 refine wp_region_tail 9 (by kernel_rfl) (by kernel_rfl) (C := fun w' => ∃ p : Regrown, w' = grow (redrawn w2 p.d) p.os) rgB ?_
 simp only [tK1, tK0, dP1, dP0]
 repeat (first | (refine zA0 (Eq.refl false) ?_; simp only [Act.put, sT2, sT1, sT0]) | (refine rWalk_step (fun K hK => ?_); go_simp; first | (refine hK _ ?_; clear hK K) | (apply Exists.intro; refine ⟨fun _ => ?_, hK _ ?_⟩; (first | fail); clear hK K)))
 refine rWalk_nil ?_
 intro w3 hb
 clear gr
 have Br3 := Br2.ee hb
 have hw3 := (upB hw2 hb)
 clear hb Br2 hw2
 have Fr := Br3.f
 go_wp2_with fail
 refine bodyPost_ret (v := .agg #[.int .i64 (k % (s + 1)), .int .i64 (k / (s + 1))]) (by simp [results, Tryz.results14, go_sem, Fr]) rfl ⟨by rw [HE.out], by have hl := hw3.size; go_grown⟩
def cI (x : Int) : List Value := [.int .i64 x]
theorem RowAt.num {w : World} {a : Option Addr} {P : List Int} (h : RowAt cI 1 w a P) {j : Nat} (hj : j < P.length) : ∃ ad, a = some ad ∧ ad.block < w.heap.size ∧ w.cell? (ad.add j) = some (.int .i64 P[j]) := by
 obtain ⟨ad, h1, h2, h3⟩ := h j P[j] (List.getElem?_eq_getElem hj)
 have h4 := h3 0 (.int .i64 P[j]) rfl
 rw [Nat.mul_one, show ∀ A : Addr, A.add 0 = A from fun A => by unfold Addr.add; split <;> simp_all] at h4
 exact ⟨ad, h1, h2, h4⟩
def PutPt (s : Int) (P : List Int) (q : Pt) : Prop := (q = ⟨0, 0⟩ ∨ q = ⟨s, 0⟩ ∨ q = ⟨s, s⟩ ∨ q = ⟨0, s⟩) ∨ ∃ x ∈ P, q = spt s x
end Go.Proofs.YtmobnmjjmafibaaGreat
namespace Go.Proofs.YtmobnmjjmafibaaGreat
open Go.RowKit Go.Sort Go.ChangeShapes Go.WideShapes Go.ChangeAt
section
variable {H : Type} {enc : TypeId × Value → H} {w : World} {base : Nat → Bool} {spare : Bool}
theorem trod_num {b0 : Nat} {fuel : Nat} {cs : List Value} {y : DataW H × List MemPlace} (hl : cs.length = 1) (hf : DataW.trod enc Tryz.prog w b0 base spare fuel 3 cs = some y) :
    ∃ x : Int, cs = cI x := by
 match cs, hl with
 | [v], _ =>
  obtain ⟨a0, h4, rfl, _⟩ := DataW.trod_int Tryz.underlying3 hf
  simp at h4
  exact ⟨a0, by unfold cI; rw [h4]⟩
theorem open_rowI {r : Reach} {b0 b1 : Nat} {v : Value} {d : DataW H} {p : List MemPlace} (hv : Value.okWide Tryz.prog w r b1 22 v) (h : DataW.Trod enc Tryz.prog w b0 base spare 22 v d p) :
    ∃ (a : Option Addr) (n cap : Nat) (L : List Int), v = .slice a n cap ∧ L.length = n ∧ RowAt cI 1 w a L := by
 obtain ⟨a0, n0, k0, rfl⟩ := okWide_slice Tryz.underlying22 hv
 obtain ⟨fuel, hf⟩ := h
 simp only [Value.cells] at hf
 rcases Deep.open_slice Tryz.underlying22 hf with ⟨hcs, _⟩ | ⟨a, len, cap, m, n, D, Pl, hcs, hb, hl, hm, hmm, hx, hi⟩
 ·simp only [List.cons.injEq, Value.slice.injEq, and_true] at hcs
  obtain ⟨rfl, rfl, rfl⟩ := hcs
  exact ⟨none, 0, 0, [], rfl, rfl, fun j x hx => (by simp at hx)⟩
 ·simp only [List.cons.injEq, Value.slice.injEq, and_true] at hcs
  obtain ⟨rfl, rfl, rfl⟩ := hcs
  have hlm : n0 ≤ m := by rw [hmm]; split <;> omega
  have each : ∀ i, i < n0 → ∃ T : Int, ∀ j u, (cI T)[j]? = some u → w.cell? ((a.add (i * 1)).add j) = some u := fun i hin => by
   obtain ⟨cs', h1, h2⟩ := hi i (by omega)
   rw [show Tryz.prog.cellsOf 3 = 1 by kernel_rfl] at h1
   obtain ⟨_, hlen, hcell⟩ := World.cells?_some h1
   obtain ⟨T, rfl⟩ := trod_num hlen h2
   refine ⟨T, fun j u hu => ?_⟩
   rw [hcell j (by have := (List.getElem?_eq_some_iff.1 hu).1; rwa [hlen] at this)]; exact hu
  obtain ⟨f, hf2⟩ := Deep.choose_lt each
  refine ⟨some a, n0, k0, (List.range n0).map f, rfl, by simp, fun j x hx => ?_⟩
  rw [List.getElem?_map] at hx
  obtain ⟨i, hi1, rfl⟩ := Option.map_eq_some_iff.1 hx
  have hj : j < n0 ∧ i = j := by
   obtain ⟨h1, h2⟩ := List.getElem?_eq_some_iff.1 hi1
   simp at h1 h2; exact ⟨h1, h2.symm⟩
  obtain ⟨hj, rfl⟩ := hj
  have hc := hf2 i hj
  refine ⟨a, rfl, ?_, hc⟩
  have h4 := hc 0 _ rfl
  unfold World.cell? at h4
  rw [zAn, zAn] at h4
  rcases Nat.lt_or_ge a.block w.heap.size with h' | h'
  ·exact h'
  ·simp [Array.getElem?_eq_none h'] at h4
end
end Go.Proofs.YtmobnmjjmafibaaGreat
namespace Go.Proofs.YtmobnmjjmafibaaGreat
open Go.RowKit Go.Sort
attribute [local go_sem] rOper rAt rUpon cell_set sg_i64 sg_u64 alloc_cell alloc_frozen
attribute [local go_sem 10000] pt_eql pt_neq tri_eql
attribute [local irreducible] rWalk
attribute [local go_sem 10000] run_upto_tri
theorem zHm {w : World} {a : Option Addr} {L : List Tri3} (h : RowAt cT 6 w a L) (k : Nat) : RowAt cT 6 w a (L.take k) := fun j x hx => by
 refine h j x ?_
 rw [List.getElem?_take] at hx
 split at hx
 ·exact hx
 ·cases hx
theorem zGn : ∀ (L : List Tri3) (E : Es), (takeRun E L).1 ≤ L.length
 | [], _ => Nat.le_refl _
 | T :: L, E => by
  unfold takeRun
  split
  ·have := zGn L (takeT E T); simp only [List.length_cons]; omega
  ·exact Nat.zero_le _
theorem zGu : ∀ (L : List Tri3) (E : Es), (putRun E L).1 ≤ L.length
 | [], _ => Nat.le_refl _
 | T :: L, E => by
  unfold putRun
  split
  ·have := zGu L (putT E T); simp only [List.length_cons]; omega
  ·exact Nat.zero_le _
theorem replace_none (mb b : Nat) (E : Es) (a1 a2 : Option Addr) (cap1 cap2 n1 n2 : Nat) (L1 : List Tri3) (hn1 : L1.length = n1) (hc1 : n1 ≤ cap1) (hm1 : n1 ≤ 1000000) (hok1 : ∀ T ∈ L1, okT T) (h1 : (takeRun E L1).1 < n1) (w : World) (Bm : Box w mb [.map (some b)] 89) (Hm : HoldsMap eW eT okW w b E) (Hr1 : RowAt cT 6 w a1 L1) :
    Calls Tryz.prog 35 #[.pointer (some ⟨mb, 0, none⟩), .slice a1 n1 cap1, .slice a2 n2 cap2] w fun e w' => e = .returned (.int .i64 16) ∧ w.grownBy w' (some b) ∧ HoldsMap eW eT okW w' b (putRun (takeRun E L1).2 (L1.take (takeRun E L1).1)).2 := by
 have c1 := zEs mb b E a1 cap1 n1 L1 (Lib.hid hn1) hm1 hok1
 generalize hk : (takeRun E L1).1 = k at *
 generalize (takeRun E L1).2 = F at *
 have c2 := zE3 mb b F a1 cap1 k (L1.take k) (Lib.hid (by rw [List.length_take]; omega)) (by omega) (fun T hT => hok1 T (List.mem_of_mem_take hT))
 generalize (putRun F (L1.take k)).1 = j at *
 generalize hL2 : L1.take k = L2 at *
 have HL2 := Lib.hid hL2
 generalize (putRun F L2).2 = G at *
 have d1 : decide ((k : Int) < (n1 : Int)) = true := by simp; omega
 have d2 : (k : Int) < (n1 : Int) := by omega
 have hkc : k ≤ cap1 := by omega
 clear hok1 hn1 hL2 hk
 go_enter Tryz.func35, Tryz.ntmps35
 go_wp2_with fail
 refine (c1 _ Bm Hm Hr1).mono ?_
 rintro e w1 ⟨rfl, hg, H1⟩
 replace Bm := Bm.turn Hm hg
 have Hr2 := zHm (Hr1.turn cT_ne Hm hg) k
 rw [HL2.out] at Hr2
 clear Hm Hr1 c1 HL2
 go_wp2_with fail
 refine (c2 _ Bm H1 Hr2).mono ?_
 rintro e w2 ⟨rfl, hh, H2⟩
 replace hg := zA9 hg hh
 clear hh
 go_wp2
 go_ret
 exact ⟨rfl, hg, H2⟩
theorem replace_bad (mb b : Nat) (E : Es) (a1 a2 : Option Addr) (cap1 cap2 n1 n2 : Nat) (L1 L2 : List Tri3) (hn1 : L1.length = n1) (hm1 : n1 ≤ 1000000) (hok1 : ∀ T ∈ L1, okT T) (hn2 : L2.length = n2) (hc2 : n2 ≤ cap2) (hm2 : n2 ≤ 1000000) (hok2 : ∀ T ∈ L2, okT T) (h1 : (takeRun E L1).1 = n1) (h2 : (putRun (takeRun E L1).2 L2).1 < n2) (w : World) (Bm : Box w mb [.map (some b)] 89) (Hm : HoldsMap eW eT okW w b E) (Hr1 : RowAt cT 6 w a1 L1) (Hr2 : RowAt cT 6 w a2 L2) :
    Calls Tryz.prog 35 #[.pointer (some ⟨mb, 0, none⟩), .slice a1 n1 cap1, .slice a2 n2 cap2] w fun e w' => e = .returned (.int .i64 2) ∧ w.grownBy w' (some b) ∧ HoldsMap eW eT okW w' b (putRun (takeRun (putRun (takeRun E L1).2 L2).2 (L2.take (putRun (takeRun E L1).2 L2).1)).2 L1).2 := by
 have c1 := zEs mb b E a1 cap1 n1 L1 (Lib.hid hn1) hm1 hok1
 rw [h1] at c1
 generalize (takeRun E L1).2 = F at *
 have c2 := zE3 mb b F a2 cap2 n2 L2 (Lib.hid hn2) hm2 hok2
 generalize (putRun F L2).1 = k at *
 generalize (putRun F L2).2 = G at *
 have c3 := zEs mb b G a2 cap2 k (L2.take k) (Lib.hid (by rw [List.length_take]; omega)) (by omega) (fun T hT => hok2 T (List.mem_of_mem_take hT))
 generalize hL3 : L2.take k = L3 at *
 have HL3 := Lib.hid hL3
 generalize (takeRun G L3).1 = j3 at *
 generalize (takeRun G L3).2 = G3 at *
 have c4 := zE3 mb b G3 a1 cap1 n1 L1 (Lib.hid hn1) hm1 hok1
 generalize (putRun G3 L1).1 = j4 at *
 generalize (putRun G3 L1).2 = G4 at *
 have d0 : decide ((n1 : Int) < (n1 : Int)) = false := by simp
 have d1 : decide ((k : Int) < (n2 : Int)) = true := by simp; omega
 have d2 : (k : Int) < (n2 : Int) := by omega
 have hkc : k ≤ cap2 := by omega
 clear hok1 hok2 hn1 hn2 hL3 h1
 go_enter Tryz.func35, Tryz.ntmps35
 go_wp2_with fail
 refine (c1 _ Bm Hm Hr1).mono ?_
 rintro e w1 ⟨rfl, hg, H1⟩
 replace Bm := Bm.turn Hm hg
 replace Hr1 := Hr1.turn cT_ne Hm hg
 replace Hr2 := Hr2.turn cT_ne Hm hg
 clear Hm c1
 go_wp2_with fail
 refine (c2 _ Bm H1 Hr2).mono ?_
 rintro e w2 ⟨rfl, hh, H2⟩
 replace hg := zA9 hg hh
 replace Bm := Bm.turn H1 hh
 replace Hr1 := Hr1.turn cT_ne H1 hh
 have Hr3 := zHm (Hr2.turn cT_ne H1 hh) k
 rw [HL3.out] at Hr3
 clear hh H1 c2 Hr2 HL3
 go_wp2_with fail
 refine (c3 _ Bm H2 Hr3).mono ?_
 rintro e w3 ⟨rfl, hh, H3⟩
 replace hg := zA9 hg hh
 replace Bm := Bm.turn H2 hh
 replace Hr1 := Hr1.turn cT_ne H2 hh
 clear hh H2 c3 Hr3
 go_wp2_with fail
 refine (c4 _ Bm H3 Hr1).mono ?_
 rintro e w4 ⟨rfl, hh, H4⟩
 replace hg := zA9 hg hh
 clear hh
 go_wp2
 go_ret
 exact ⟨rfl, hg, H4⟩
end Go.Proofs.YtmobnmjjmafibaaGreat
namespace Go.Proofs.YtmobnmjjmafibaaGreat
open Go.RowKit
theorem Good.takeUp : ∀ {L1 : List Tri3} {E : Es} {L : List Tri3}, Good E L → ∃ M, L.Perm (L1.take (takeRun E L1).1 ++ M) ∧ Good (takeRun E L1).2 M
 | [], E, L, h => ⟨L, by simp, h⟩
 | T :: L1, E, L, h => by
  unfold takeRun
  by_cases hh : hasE E T = true
  ·rw [if_pos hh]
   have hm := h.has.1 hh
   obtain ⟨M0, hM0⟩ : ∃ M0, L.Perm (T :: M0) := ⟨L.erase T, List.perm_cons_erase hm⟩
   obtain ⟨_, h2⟩ := Good.take (h.order hM0)
   obtain ⟨M, p, g⟩ := Good.takeUp (L1 := L1) h2
   exact ⟨M, by simp only [List.take_succ_cons, List.cons_append]; exact hM0.trans (p.cons T), g⟩
  ·rw [if_neg hh]
   exact ⟨L, by simp, h⟩
theorem fits_free {E : Es} {M : List Tri3} (h : Good E M) {T : Tri3} (hf : fitsE E T = true) : valT T = true ∧ ∀ w ∈ ways T, w ∉ M.flatMap ways := by
 obtain ⟨h1, h2, h3, hv⟩ := zH3 hf
 refine ⟨hv, fun w hw => ?_⟩
 simp only [ways, List.mem_cons, List.not_mem_nil, or_false] at hw
 rcases hw with rfl | rfl | rfl
 ·exact h.get_none.1 h1
 ·exact h.get_none.1 h2
 ·exact h.get_none.1 h3
theorem Good.putUp : ∀ {L2 : List Tri3} {E : Es} {M : List Tri3}, Good E M → Good (putRun E L2).2 (L2.take (putRun E L2).1 ++ M)
 | [], E, M, h => by simpa [putRun] using h
 | T :: L2, E, M, h => by
  unfold putRun
  by_cases hh : fitsE E T = true
  ·rw [if_pos hh]
   obtain ⟨hv, hn⟩ := fits_free h hh
   have h2 := (Good.put h hv hn).2
   have := Good.putUp (L2 := L2) h2
   simp only [List.take_succ_cons, List.cons_append]
   exact this.order List.perm_middle
  ·rw [if_neg hh]
   simpa using h
def Repl (E : Es) (L L1 L2 : List Tri3) (r : Int) (L' : List Tri3) : Prop :=
 (r = 16 ∧ (takeRun E L1).1 < L1.length ∧ L'.Perm L) ∨
 (r = 2 ∧ (takeRun E L1).1 = L1.length ∧ (putRun (takeRun E L1).2 L2).1 < L2.length ∧ L'.Perm L) ∨
 (r = 0 ∧ (takeRun E L1).1 = L1.length ∧ (putRun (takeRun E L1).2 L2).1 = L2.length ∧ ∃ M, L.Perm (L1 ++ M) ∧ L'.Perm (L2 ++ M))
theorem mreplace_any (mb b : Nat) (E : Es) (L : List Tri3) (g : Good E L) (a1 a2 : Option Addr) (cap1 cap2 n1 n2 : Nat) (L1 L2 : List Tri3) (hn1 : L1.length = n1) (hc1 : n1 ≤ cap1) (hm1 : n1 ≤ 1000000) (hok1 : ∀ T ∈ L1, okT T) (hn2 : L2.length = n2) (hc2 : n2 ≤ cap2) (hm2 : n2 ≤ 1000000) (hok2 : ∀ T ∈ L2, okT T) (w : World) (Bm : Box w mb [.map (some b)] 89) (Hm : HoldsMap eW eT okW w b E) (Hr1 : RowAt cT 6 w a1 L1) (Hr2 : RowAt cT 6 w a2 L2) :
    Calls Tryz.prog 35 #[.pointer (some ⟨mb, 0, none⟩), .slice a1 n1 cap1, .slice a2 n2 cap2] w fun e w' => ∃ r E' L', e = .returned (.int .i64 r) ∧ w.grownBy w' (some b) ∧ HoldsMap eW eT okW w' b E' ∧ Good E' L' ∧ Repl E L L1 L2 r L' := by
 obtain ⟨M, pM, gM⟩ := Good.takeUp (L1 := L1) g
 have tl := zGn L1 E
 by_cases h1 : (takeRun E L1).1 = n1
 ·have e1 : L1.take (takeRun E L1).1 = L1 := List.take_of_length_le (by omega)
  rw [e1] at pM
  have pl := zGu L2 (takeRun E L1).2
  have gG := Good.putUp (L2 := L2) gM
  by_cases h2 : (putRun (takeRun E L1).2 L2).1 = n2
  ·have e2 : L2.take (putRun (takeRun E L1).2 L2).1 = L2 := List.take_of_length_le (by omega)
   rw [e2] at gG
   refine (zGt mb b E a1 a2 cap1 cap2 n1 n2 L1 L2 (Lib.hid hn1) hm1 hok1 (Lib.hid hn2) hm2 hok2 h1 h2 w Bm Hm Hr1 Hr2).mono ?_
   rintro e w' ⟨rfl, hg, H'⟩
   exact ⟨0, _, _, rfl, hg, H', gG, .inr (.inr ⟨rfl, by omega, by omega, M, pM, .refl _⟩)⟩
  ·refine (replace_bad mb b E a1 a2 cap1 cap2 n1 n2 L1 L2 hn1 hm1 hok1 hn2 hc2 hm2 hok2 h1 (by omega) w Bm Hm Hr1 Hr2).mono ?_
   rintro e w' ⟨rfl, hg, H'⟩
   have g3 := (Good.takes (F := L2.take (putRun (takeRun E L1).2 L2).1) (M := M) gG).2
   have n4 : ((L1 ++ M).flatMap ways).Nodup := (zB5 pM).nodup_iff.1 g.once
   have g4 := (Good.puts (I := L1) (M := M) g3 (fun T hT => g.val T (pM.mem_iff.2 (by simp [hT]))) n4).2
   exact ⟨2, _, _, rfl, hg, H', g4, .inr (.inl ⟨rfl, by omega, by omega, pM.symm⟩)⟩
 ·refine (replace_none mb b E a1 a2 cap1 cap2 n1 n2 L1 hn1 hc1 hm1 hok1 (by omega) w Bm Hm Hr1).mono ?_
  rintro e w' ⟨rfl, hg, H'⟩
  have n4 : ((L1.take (takeRun E L1).1 ++ M).flatMap ways).Nodup := (zB5 pM).nodup_iff.1 g.once
  have g4 := (Good.puts (I := L1.take (takeRun E L1).1) (M := M) gM (fun T hT => g.val T (pM.mem_iff.2 (by simp [hT]))) n4).2
  exact ⟨16, _, _, rfl, hg, H', g4, .inl ⟨rfl, by omega, pM.symm⟩⟩
end Go.Proofs.YtmobnmjjmafibaaGreat
namespace Go.Proofs.YtmobnmjjmafibaaGreat
open Go.RowKit Go.Sort
attribute [local go_sem] rOper rAt rUpon cell_set sg_i64 sg_u64 alloc_cell alloc_frozen
attribute [local go_sem 10000] pt_eql pt_neq tri_eql
attribute [local irreducible] rWalk
theorem flip_g (mb b : Nat) (E : Es) (p q : Pt) (hk : okW (p, q)) (L : List Tri3) (g : Good E L) (S R U V : Tri3) (C D : Pt) (h0 : getE E (p, q) = some S) (h1 : getE E (q, p) = some R) (hC : apx S p q = C) (hD : apx R p q = D) (hm : meetS p q C D = 1) (hU : mk C p D = U) (hV : mk D q C = V) (hS : okT S) (hR : okT R) (hu : okT U) (hv : okT V) (w : World) (Bm : Box w mb [.map (some b)] 89) (Hm : HoldsMap eW eT okW w b E) :
    Calls Tryz.prog 39 #[.pointer (some ⟨mb, 0, none⟩), .agg #[.int .i64 p.x, .int .i64 p.y], .agg #[.int .i64 q.x, .int .i64 q.y]] w fun e w' => ∃ r E' L', e = .returned (.int .i64 r) ∧ w.grownBy w' (some b) ∧ HoldsMap eW eT okW w' b E' ∧ Good E' L' ∧ Repl E L [S, R] [U, V] r L' := by
 have cl := zG8 mb b E p q S h0 hk
 have cr := zG8 mb b E q p R h1 ⟨hk.2, hk.1⟩
 clear h0 h1
 have ca := zE8 S p q
 have cb := zE8 R p q
 have cm := zHg p q C D
 have cu := zEn C p D
 have cv := zEn D q C
 rw [hU] at cu
 rw [hV] at cv
 rw [hC] at ca
 rw [hD] at cb
 rw [hm] at cm
 have cp := fun a1 a2 w B H R1 R2 => mreplace_any mb b E L g a1 a2 2 2 2 2 [S, R] [U, V] rfl (by decide) (by decide) (by simpa using And.intro hS hR) rfl (by decide) (by decide) (by simpa using And.intro hu hv) w B H R1 R2
 have HGG := Lib.hid g
 clear hU hV hC hD hm hS hR hu hv g
 go_enter Tryz.func39, Tryz.ntmps39
 go_wp2_with fail
 refine zA1 fun W1 hW => ?_
 have Bp : Box W1 (w.heap.size) [.int .i64 p.x, .int .i64 p.y] 30 := by rw [hW]; exact (Box.new rfl).old _
 have Bq : Box W1 (w.heap.size + 1) [.int .i64 q.x, .int .i64 q.y] 30 := by rw [hW]; exact Box.new (by simp)
 have hw : Below w.heap.size w W1 := by rw [hW]; go_grown
 clear hW
 refine (cl _ (Bm.ee hw) (Hm.ee hw)).mono ?_
 rintro e w2 ⟨rfl, hb⟩
 replace Bp := Bp.ee hb
 replace Bq := Bq.ee hb
 replace hw := upB hw hb
 clear hb
 have Fp := Bp.f
 have Fq := Bq.f
 go_wp2_with fail
 clear Fp Fq
 refine zA1 fun W3 hW => ?_
 obtain ⟨bks, hbs⟩ : ∃ b, w2.heap.size = b := ⟨_, rfl⟩
 rw [hbs]
 have lps := Bp.lt
 rw [hbs] at lps
 have lqs := Bq.lt
 rw [hbs] at lqs
 have fs := hw.size
 rw [hbs] at fs
 have Bs : Box W3 bks [.int .i64 S.A.x, .int .i64 S.A.y, .int .i64 S.B.x, .int .i64 S.B.y, .int .i64 S.C.x, .int .i64 S.C.y] 38 := by rw [hW]; exact Box.new hbs.symm
 replace Bp : Box W3 (w.heap.size) [.int .i64 p.x, .int .i64 p.y] 30 := by rw [hW]; exact Bp.old _
 replace Bq : Box W3 (w.heap.size + 1) [.int .i64 q.x, .int .i64 q.y] 30 := by rw [hW]; exact Bq.old _
 replace hw : Below w.heap.size w W3 := by have hl := hw.size; rw [hW]; go_grown
 clear hW hbs
 refine (cr _ (Bm.ee hw) (Hm.ee hw)).mono ?_
 rintro e w4 ⟨rfl, hb⟩
 replace Bp := Bp.ee hb
 replace Bq := Bq.ee hb
 replace Bs := Bs.ee hb
 replace hw := upB hw hb
 clear hb
 have Fp := Bp.f
 have Fq := Bq.f
 have Fs := Bs.f
 go_wp2_with fail
 clear Fp Fq Fs
 refine zA2 fun W5 hW => ?_
 obtain ⟨bkr, hbr⟩ : ∃ b, w4.heap.size = b := ⟨_, rfl⟩
 rw [hbr]
 have lpr := Bp.lt
 rw [hbr] at lpr
 have lqr := Bq.lt
 rw [hbr] at lqr
 have lsr := Bs.lt
 rw [hbr] at lsr
 have fr := hw.size
 rw [hbr] at fr
 have Br : Box W5 bkr [.int .i64 R.A.x, .int .i64 R.A.y, .int .i64 R.B.x, .int .i64 R.B.y, .int .i64 R.C.x, .int .i64 R.C.y] 38 := by rw [hW]; exact Box.new hbr.symm
 replace Bp : Box W5 (w.heap.size) [.int .i64 p.x, .int .i64 p.y] 30 := by rw [hW]; exact Bp.old _
 replace Bq : Box W5 (w.heap.size + 1) [.int .i64 q.x, .int .i64 q.y] 30 := by rw [hW]; exact Bq.old _
 replace Bs : Box W5 (bks) [.int .i64 S.A.x, .int .i64 S.A.y, .int .i64 S.B.x, .int .i64 S.B.y, .int .i64 S.C.x, .int .i64 S.C.y] 38 := by rw [hW]; exact Bs.old _
 replace hw : Below w.heap.size w W5 := by have hl := hw.size; rw [hW]; go_grown
 clear hW hbr
 have gp := Bp.cells
 have gq := Bq.cells
 have gs := Bs.cells
 have gr := Br.cells
 refine zBb 10 [⟨8, 10, 30, [.int .i64 0, .int .i64 0]⟩, ⟨9, 11, 30, [.int .i64 0, .int .i64 0]⟩] ?_ (by kernel_rfl) (by decide) (by decide) (by kernel_rfl) (by decide) (C := fun w' => ∃ p : Regrown, w' = grow (redrawn W5 p.d) p.os) rgB ?_
 ·simp only [List.forall_mem_cons]
  refine ⟨⟨_, rfl, rfl, rfl, rfl, fun ρ W => by simp [execOp, go_sem]⟩, ⟨_, rfl, rfl, rfl, rfl, fun ρ W => by simp [execOp, go_sem]⟩, fun _ h => (by cases h)⟩
 simp only [List.take_succ_cons, List.take_zero, List.map_cons, List.map_nil, dropIdx, List.contains_cons, List.contains_nil, Nat.reduceBEq, Nat.reduceAdd, Bool.or_false, Bool.or_true, Bool.or_self, Bool.false_eq_true, if_true, if_false]
 repeat (first | (refine zA0 (Eq.refl false) ?_; simp only [Act.put, sT2, sT1, sT0]) | (refine rWalk_step (fun K hK => ?_); go_simp; first | (refine hK _ ?_; clear hK K) | (apply Exists.intro; refine ⟨fun _ => ?_, hK _ ?_⟩; (first | with_reducible exact toExt ca _ | with_reducible exact toExt cb _); clear hK K)))
 refine rWalk_nil ?_
 intro w6 β hL
 simp only [putD, List.drop_succ_cons, List.drop_zero]
 have qc := hL.box ⟨8, 10, 30, [.int .i64 0, .int .i64 0]⟩ (by simp) (by simp)
 simp only at qc
 have qd := hL.box ⟨9, 11, 30, [.int .i64 0, .int .i64 0]⟩ (by simp) (by simp)
 simp only at qd
 have ncd := hL.apart 10 (by simp) 11 (by simp) (by decide)
 have ndc := hL.apart 11 (by simp) 10 (by simp) (by decide)
 have hb := hL.below
 have lp := Bp.lt
 have lq := Bq.lt
 have ls := Bs.lt
 have lr := Br.lt
 clear gp gq gs gr
 replace Bp := Bp.ee hb
 replace Bq := Bq.ee hb
 replace Bs := Bs.ee hb
 replace Br := Br.ee hb
 have hw0 := hw.size
 replace hw := upB hw hb
 clear hb hL
 generalize β 10 = bkc at *
 generalize β 11 = bkd at *
 clear β
 obtain ⟨fc, Bc⟩ := qc
 obtain ⟨fd, Bd⟩ := qd
 simp only [Act.put]
 have Fc := Bc.f
 have Fd := Bd.f
 have Fp := Bp.f
 have Fq := Bq.f
 have Fs := Bs.f
 have Fr := Br.f
 have epbkc : (w.heap.size = bkc) = False := by simp; omega
 have epbkc' : (bkc = w.heap.size) = False := by simp; omega
 have epbkd : (w.heap.size = bkd) = False := by simp; omega
 have epbkd' : (bkd = w.heap.size) = False := by simp; omega
 have eqbkc : (w.heap.size + 1 = bkc) = False := by simp; omega
 have eqbkc' : (bkc = w.heap.size + 1) = False := by simp; omega
 have eqbkd : (w.heap.size + 1 = bkd) = False := by simp; omega
 have eqbkd' : (bkd = w.heap.size + 1) = False := by simp; omega
 have esbkc : (bks = bkc) = False := by simp; omega
 have esbkc' : (bkc = bks) = False := by simp; omega
 have esbkd : (bks = bkd) = False := by simp; omega
 have esbkd' : (bkd = bks) = False := by simp; omega
 have erbkc : (bkr = bkc) = False := by simp; omega
 have erbkc' : (bkc = bkr) = False := by simp; omega
 have erbkd : (bkr = bkd) = False := by simp; omega
 have erbkd' : (bkd = bkr) = False := by simp; omega
 have ebkcbkd : (bkc = bkd) = False := by simp; omega
 have ebkdbkc : (bkd = bkc) = False := by simp; omega
 go_wp2_with fail
 refine zA1 fun W7 hW => ?_
 have Cp : Box W7 (w.heap.size) [.int .i64 p.x, .int .i64 p.y] 30 := by rw [hW]; exact ((((Bp.sn bkc 0 (.int .i64 C.x) (by first | assumption | omega)).sn bkc 1 (.int .i64 C.y) (by first | assumption | omega)).sn bkd 0 (.int .i64 D.x) (by first | assumption | omega)).sn bkd 1 (.int .i64 D.y) (by first | assumption | omega))
 have Cq : Box W7 (w.heap.size + 1) [.int .i64 q.x, .int .i64 q.y] 30 := by rw [hW]; exact ((((Bq.sn bkc 0 (.int .i64 C.x) (by first | assumption | omega)).sn bkc 1 (.int .i64 C.y) (by first | assumption | omega)).sn bkd 0 (.int .i64 D.x) (by first | assumption | omega)).sn bkd 1 (.int .i64 D.y) (by first | assumption | omega))
 have Cs : Box W7 (bks) [.int .i64 S.A.x, .int .i64 S.A.y, .int .i64 S.B.x, .int .i64 S.B.y, .int .i64 S.C.x, .int .i64 S.C.y] 38 := by rw [hW]; exact ((((Bs.sn bkc 0 (.int .i64 C.x) (by first | assumption | omega)).sn bkc 1 (.int .i64 C.y) (by first | assumption | omega)).sn bkd 0 (.int .i64 D.x) (by first | assumption | omega)).sn bkd 1 (.int .i64 D.y) (by first | assumption | omega))
 have Cr : Box W7 (bkr) [.int .i64 R.A.x, .int .i64 R.A.y, .int .i64 R.B.x, .int .i64 R.B.y, .int .i64 R.C.x, .int .i64 R.C.y] 38 := by rw [hW]; exact ((((Br.sn bkc 0 (.int .i64 C.x) (by first | assumption | omega)).sn bkc 1 (.int .i64 C.y) (by first | assumption | omega)).sn bkd 0 (.int .i64 D.x) (by first | assumption | omega)).sn bkd 1 (.int .i64 D.y) (by first | assumption | omega))
 have Cc : Box W7 (bkc) [.int .i64 C.x, .int .i64 C.y] 30 := by rw [hW]; exact ((((Bc.set 0 (.int .i64 C.x)).set 1 (.int .i64 C.y)).sn bkd 0 (.int .i64 D.x) (by first | assumption | omega)).sn bkd 1 (.int .i64 D.y) (by first | assumption | omega))
 have Cd : Box W7 (bkd) [.int .i64 D.x, .int .i64 D.y] 30 := by rw [hW]; exact ((((Bd.sn bkc 0 (.int .i64 C.x) (by first | assumption | omega)).sn bkc 1 (.int .i64 C.y) (by first | assumption | omega)).set 0 (.int .i64 D.x)).set 1 (.int .i64 D.y))
 replace hw : Below w.heap.size w W7 := by have hl := hw.size; rw [hW]; go_grown
 clear Fc Fd
 clear Fp Fq Fs Fr epbkc epbkc' epbkd epbkd' eqbkc eqbkc' eqbkd eqbkd' esbkc esbkc' esbkd esbkd' erbkc erbkc' erbkd erbkd' ebkcbkd ebkdbkc
 clear hW Bp Bq Bs Br Bc Bd
 have Bp := Cp
 have Bq := Cq
 have Bs := Cs
 have Br := Cr
 have Bc := Cc
 have Bd := Cd
 clear Cp Cq Cs Cr Cc Cd
 refine (cm _).mono ?_
 rintro e w8 ⟨rfl, hb⟩
 replace Bp := Bp.ee hb
 replace Bq := Bq.ee hb
 replace Bs := Bs.ee hb
 replace Br := Br.ee hb
 replace Bc := Bc.ee hb
 replace Bd := Bd.ee hb
 replace hw := upB hw hb
 clear hb
 have Fp := Bp.f
 have Fq := Bq.f
 have Fs := Bs.f
 have Fr := Br.f
 have Fc := Bc.f
 have Fd := Bd.f
 go_wp2_with fail
 refine (cu _).mono ?_
 rintro e w9 ⟨rfl, hb⟩
 clear Fp Fq Fs Fr Fc Fd
 replace Bp := Bp.ee hb
 replace Bq := Bq.ee hb
 replace Bs := Bs.ee hb
 replace Br := Br.ee hb
 replace Bc := Bc.ee hb
 replace Bd := Bd.ee hb
 replace hw := upB hw hb
 clear hb
 have Fp := Bp.f
 have Fq := Bq.f
 have Fs := Bs.f
 have Fr := Br.f
 have Fc := Bc.f
 have Fd := Bd.f
 go_wp2_with fail
 clear Fp Fq Fs Fr Fc Fd
 refine zA1 fun W10 hW => ?_
 obtain ⟨bku, hbu⟩ : ∃ b, w9.heap.size = b := ⟨_, rfl⟩
 rw [hbu]
 have lpu := Bp.lt
 rw [hbu] at lpu
 have lqu := Bq.lt
 rw [hbu] at lqu
 have lsu := Bs.lt
 rw [hbu] at lsu
 have lru := Br.lt
 rw [hbu] at lru
 have lcu := Bc.lt
 rw [hbu] at lcu
 have ldu := Bd.lt
 rw [hbu] at ldu
 have fu := hw.size
 rw [hbu] at fu
 have Bu : Box W10 bku [.int .i64 U.A.x, .int .i64 U.A.y, .int .i64 U.B.x, .int .i64 U.B.y, .int .i64 U.C.x, .int .i64 U.C.y] 38 := by rw [hW]; exact Box.new hbu.symm
 replace Bp : Box W10 (w.heap.size) [.int .i64 p.x, .int .i64 p.y] 30 := by rw [hW]; exact Bp.old _
 replace Bq : Box W10 (w.heap.size + 1) [.int .i64 q.x, .int .i64 q.y] 30 := by rw [hW]; exact Bq.old _
 replace Bs : Box W10 (bks) [.int .i64 S.A.x, .int .i64 S.A.y, .int .i64 S.B.x, .int .i64 S.B.y, .int .i64 S.C.x, .int .i64 S.C.y] 38 := by rw [hW]; exact Bs.old _
 replace Br : Box W10 (bkr) [.int .i64 R.A.x, .int .i64 R.A.y, .int .i64 R.B.x, .int .i64 R.B.y, .int .i64 R.C.x, .int .i64 R.C.y] 38 := by rw [hW]; exact Br.old _
 replace Bc : Box W10 (bkc) [.int .i64 C.x, .int .i64 C.y] 30 := by rw [hW]; exact Bc.old _
 replace Bd : Box W10 (bkd) [.int .i64 D.x, .int .i64 D.y] 30 := by rw [hW]; exact Bd.old _
 replace hw : Below w.heap.size w W10 := by have hl := hw.size; rw [hW]; go_grown
 clear hW hbu
 refine (cv _).mono ?_
 rintro e w11 ⟨rfl, hb⟩
 replace Bp := Bp.ee hb
 replace Bq := Bq.ee hb
 replace Bs := Bs.ee hb
 replace Br := Br.ee hb
 replace Bc := Bc.ee hb
 replace Bd := Bd.ee hb
 replace Bu := Bu.ee hb
 replace hw := upB hw hb
 clear hb
 have Fp := Bp.f
 have Fq := Bq.f
 have Fs := Bs.f
 have Fr := Br.f
 have Fc := Bc.f
 have Fd := Bd.f
 have Fu := Bu.f
 have es4 : (bks = w11.heap.size + 1) = False := by have := Bs.lt; simp; omega
 have es8 : (bks = w11.heap.size + 1 + 1) = False := by have := Bs.lt; simp; omega
 have er4 : (bkr = w11.heap.size + 1) = False := by have := Br.lt; simp; omega
 have er8 : (bkr = w11.heap.size + 1 + 1) = False := by have := Br.lt; simp; omega
 have eu4 : (bku = w11.heap.size + 1) = False := by have := Bu.lt; simp; omega
 have eu8 : (bku = w11.heap.size + 1 + 1) = False := by have := Bu.lt; simp; omega
 go_wp2_with fail
 have row : ∀ {w : World} {g : Nat} {X Y : Tri3}, Box w g (cT X ++ cT Y) 38 → RowAt cT 6 w (some ⟨g, 0, none⟩) [X, Y] := fun {w g X Y} h => zBp (S := [X, Y]) (by simpa using h)
 refine zA1 fun W12 hW => ?_
 have R1 : RowAt cT 6 W12 (some ⟨w11.heap.size + 1, 0, none⟩) [S, R] := row (by rw [hW]; exact (Box.new (by simp)).old _)
 have R2 : RowAt cT 6 W12 (some ⟨w11.heap.size + 1 + 1, 0, none⟩) [U, V] := row (by rw [hW]; exact Box.new (by simp))
 replace hw : Below w.heap.size w W12 := by have hl := hw.size; rw [hW]; go_grown
 clear hW row
 have hlt := Hm.lt
 refine (cp _ _ _ (Bm.ee hw) (Hm.ee hw) R1 R2).mono ?_
 rintro e w13 ⟨r, E9, L9, rfl, hg, H2, G2, R9⟩
 replace hg := zH9 hw hg
 clear Fp Fq Fs Fr Fc Fd Fu
 go_wp2
 go_ret
 exact ⟨r, E9, L9, rfl, hg, H2, G2, R9⟩
theorem flip_m (mb b : Nat) (E : Es) (p q : Pt) (hk : okW (p, q)) (S R : Tri3) (C D : Pt) (h0 : getE E (p, q) = some S) (h1 : getE E (q, p) = some R) (hC : apx S p q = C) (hD : apx R p q = D) (hm : ¬ meetS p q C D = 1) (w : World) (Bm : Box w mb [.map (some b)] 89) (Hm : HoldsMap eW eT okW w b E) :
    Calls Tryz.prog 39 #[.pointer (some ⟨mb, 0, none⟩), .agg #[.int .i64 p.x, .int .i64 p.y], .agg #[.int .i64 q.x, .int .i64 q.y]] w fun e w' => e = .returned (.int .i64 2) ∧ Below w.heap.size w w' := by
 have cl := zG8 mb b E p q S h0 hk
 have cr := zG8 mb b E q p R h1 ⟨hk.2, hk.1⟩
 clear h0 h1
 have ca := zE8 S p q
 have cb := zE8 R p q
 have cm := zHg p q C D
 rw [hC] at ca
 rw [hD] at cb
 generalize meetS p q C D = z at *
 have hz : (z != 1) = true := by simpa using hm
 clear hC hD
 go_enter Tryz.func39, Tryz.ntmps39
 go_wp2_with fail
 refine zA1 fun W1 hW => ?_
 have Bp : Box W1 (w.heap.size) [.int .i64 p.x, .int .i64 p.y] 30 := by rw [hW]; exact (Box.new rfl).old _
 have Bq : Box W1 (w.heap.size + 1) [.int .i64 q.x, .int .i64 q.y] 30 := by rw [hW]; exact Box.new (by simp)
 have hw : Below w.heap.size w W1 := by rw [hW]; go_grown
 clear hW
 refine (cl _ (Bm.ee hw) (Hm.ee hw)).mono ?_
 rintro e w2 ⟨rfl, hb⟩
 replace Bp := Bp.ee hb
 replace Bq := Bq.ee hb
 replace hw := upB hw hb
 clear hb
 have Fp := Bp.f
 have Fq := Bq.f
 go_wp2_with fail
 clear Fp Fq
 refine zA1 fun W3 hW => ?_
 obtain ⟨bks, hbs⟩ : ∃ b, w2.heap.size = b := ⟨_, rfl⟩
 rw [hbs]
 have lps := Bp.lt
 rw [hbs] at lps
 have lqs := Bq.lt
 rw [hbs] at lqs
 have fs := hw.size
 rw [hbs] at fs
 have Bs : Box W3 bks [.int .i64 S.A.x, .int .i64 S.A.y, .int .i64 S.B.x, .int .i64 S.B.y, .int .i64 S.C.x, .int .i64 S.C.y] 38 := by rw [hW]; exact Box.new hbs.symm
 replace Bp : Box W3 (w.heap.size) [.int .i64 p.x, .int .i64 p.y] 30 := by rw [hW]; exact Bp.old _
 replace Bq : Box W3 (w.heap.size + 1) [.int .i64 q.x, .int .i64 q.y] 30 := by rw [hW]; exact Bq.old _
 replace hw : Below w.heap.size w W3 := by have hl := hw.size; rw [hW]; go_grown
 clear hW hbs
 refine (cr _ (Bm.ee hw) (Hm.ee hw)).mono ?_
 rintro e w4 ⟨rfl, hb⟩
 replace Bp := Bp.ee hb
 replace Bq := Bq.ee hb
 replace Bs := Bs.ee hb
 replace hw := upB hw hb
 clear hb
 have Fp := Bp.f
 have Fq := Bq.f
 have Fs := Bs.f
 go_wp2_with fail
 clear Fp Fq Fs
 refine zA2 fun W5 hW => ?_
 obtain ⟨bkr, hbr⟩ : ∃ b, w4.heap.size = b := ⟨_, rfl⟩
 rw [hbr]
 have lpr := Bp.lt
 rw [hbr] at lpr
 have lqr := Bq.lt
 rw [hbr] at lqr
 have lsr := Bs.lt
 rw [hbr] at lsr
 have fr := hw.size
 rw [hbr] at fr
 have Br : Box W5 bkr [.int .i64 R.A.x, .int .i64 R.A.y, .int .i64 R.B.x, .int .i64 R.B.y, .int .i64 R.C.x, .int .i64 R.C.y] 38 := by rw [hW]; exact Box.new hbr.symm
 replace Bp : Box W5 (w.heap.size) [.int .i64 p.x, .int .i64 p.y] 30 := by rw [hW]; exact Bp.old _
 replace Bq : Box W5 (w.heap.size + 1) [.int .i64 q.x, .int .i64 q.y] 30 := by rw [hW]; exact Bq.old _
 replace Bs : Box W5 (bks) [.int .i64 S.A.x, .int .i64 S.A.y, .int .i64 S.B.x, .int .i64 S.B.y, .int .i64 S.C.x, .int .i64 S.C.y] 38 := by rw [hW]; exact Bs.old _
 replace hw : Below w.heap.size w W5 := by have hl := hw.size; rw [hW]; go_grown
 clear hW hbr
 have gp := Bp.cells
 have gq := Bq.cells
 have gs := Bs.cells
 have gr := Br.cells
 refine zBb 10 [⟨8, 10, 30, [.int .i64 0, .int .i64 0]⟩, ⟨9, 11, 30, [.int .i64 0, .int .i64 0]⟩] ?_ (by kernel_rfl) (by decide) (by decide) (by kernel_rfl) (by decide) (C := fun w' => ∃ p : Regrown, w' = grow (redrawn W5 p.d) p.os) rgB ?_
 ·simp only [List.forall_mem_cons]
  refine ⟨⟨_, rfl, rfl, rfl, rfl, fun ρ W => by simp [execOp, go_sem]⟩, ⟨_, rfl, rfl, rfl, rfl, fun ρ W => by simp [execOp, go_sem]⟩, fun _ h => (by cases h)⟩
 simp only [List.take_succ_cons, List.take_zero, List.map_cons, List.map_nil, dropIdx, List.contains_cons, List.contains_nil, Nat.reduceBEq, Nat.reduceAdd, Bool.or_false, Bool.or_true, Bool.or_self, Bool.false_eq_true, if_true, if_false]
 repeat (first | (refine zA0 (Eq.refl false) ?_; simp only [Act.put, sT2, sT1, sT0]) | (refine rWalk_step (fun K hK => ?_); go_simp; first | (refine hK _ ?_; clear hK K) | (apply Exists.intro; refine ⟨fun _ => ?_, hK _ ?_⟩; (first | with_reducible exact toExt ca _ | with_reducible exact toExt cb _); clear hK K)))
 refine rWalk_nil ?_
 intro w6 β hL
 simp only [putD, List.drop_succ_cons, List.drop_zero]
 have qc := hL.box ⟨8, 10, 30, [.int .i64 0, .int .i64 0]⟩ (by simp) (by simp)
 simp only at qc
 have qd := hL.box ⟨9, 11, 30, [.int .i64 0, .int .i64 0]⟩ (by simp) (by simp)
 simp only at qd
 have ncd := hL.apart 10 (by simp) 11 (by simp) (by decide)
 have ndc := hL.apart 11 (by simp) 10 (by simp) (by decide)
 have hb := hL.below
 have lp := Bp.lt
 have lq := Bq.lt
 have ls := Bs.lt
 have lr := Br.lt
 clear gp gq gs gr
 replace Bp := Bp.ee hb
 replace Bq := Bq.ee hb
 replace Bs := Bs.ee hb
 replace Br := Br.ee hb
 have hw0 := hw.size
 replace hw := upB hw hb
 clear hb hL
 generalize β 10 = bkc at *
 generalize β 11 = bkd at *
 clear β
 obtain ⟨fc, Bc⟩ := qc
 obtain ⟨fd, Bd⟩ := qd
 simp only [Act.put]
 have Fc := Bc.f
 have Fd := Bd.f
 have Fp := Bp.f
 have Fq := Bq.f
 have Fs := Bs.f
 have Fr := Br.f
 have epbkc : (w.heap.size = bkc) = False := by simp; omega
 have epbkc' : (bkc = w.heap.size) = False := by simp; omega
 have epbkd : (w.heap.size = bkd) = False := by simp; omega
 have epbkd' : (bkd = w.heap.size) = False := by simp; omega
 have eqbkc : (w.heap.size + 1 = bkc) = False := by simp; omega
 have eqbkc' : (bkc = w.heap.size + 1) = False := by simp; omega
 have eqbkd : (w.heap.size + 1 = bkd) = False := by simp; omega
 have eqbkd' : (bkd = w.heap.size + 1) = False := by simp; omega
 have esbkc : (bks = bkc) = False := by simp; omega
 have esbkc' : (bkc = bks) = False := by simp; omega
 have esbkd : (bks = bkd) = False := by simp; omega
 have esbkd' : (bkd = bks) = False := by simp; omega
 have erbkc : (bkr = bkc) = False := by simp; omega
 have erbkc' : (bkc = bkr) = False := by simp; omega
 have erbkd : (bkr = bkd) = False := by simp; omega
 have erbkd' : (bkd = bkr) = False := by simp; omega
 have ebkcbkd : (bkc = bkd) = False := by simp; omega
 have ebkdbkc : (bkd = bkc) = False := by simp; omega
 go_wp2_with fail
 refine zA1 fun W7 hW => ?_
 have Cp : Box W7 (w.heap.size) [.int .i64 p.x, .int .i64 p.y] 30 := by rw [hW]; exact ((((Bp.sn bkc 0 (.int .i64 C.x) (by first | assumption | omega)).sn bkc 1 (.int .i64 C.y) (by first | assumption | omega)).sn bkd 0 (.int .i64 D.x) (by first | assumption | omega)).sn bkd 1 (.int .i64 D.y) (by first | assumption | omega))
 have Cq : Box W7 (w.heap.size + 1) [.int .i64 q.x, .int .i64 q.y] 30 := by rw [hW]; exact ((((Bq.sn bkc 0 (.int .i64 C.x) (by first | assumption | omega)).sn bkc 1 (.int .i64 C.y) (by first | assumption | omega)).sn bkd 0 (.int .i64 D.x) (by first | assumption | omega)).sn bkd 1 (.int .i64 D.y) (by first | assumption | omega))
 have Cs : Box W7 (bks) [.int .i64 S.A.x, .int .i64 S.A.y, .int .i64 S.B.x, .int .i64 S.B.y, .int .i64 S.C.x, .int .i64 S.C.y] 38 := by rw [hW]; exact ((((Bs.sn bkc 0 (.int .i64 C.x) (by first | assumption | omega)).sn bkc 1 (.int .i64 C.y) (by first | assumption | omega)).sn bkd 0 (.int .i64 D.x) (by first | assumption | omega)).sn bkd 1 (.int .i64 D.y) (by first | assumption | omega))
 have Cr : Box W7 (bkr) [.int .i64 R.A.x, .int .i64 R.A.y, .int .i64 R.B.x, .int .i64 R.B.y, .int .i64 R.C.x, .int .i64 R.C.y] 38 := by rw [hW]; exact ((((Br.sn bkc 0 (.int .i64 C.x) (by first | assumption | omega)).sn bkc 1 (.int .i64 C.y) (by first | assumption | omega)).sn bkd 0 (.int .i64 D.x) (by first | assumption | omega)).sn bkd 1 (.int .i64 D.y) (by first | assumption | omega))
 have Cc : Box W7 (bkc) [.int .i64 C.x, .int .i64 C.y] 30 := by rw [hW]; exact ((((Bc.set 0 (.int .i64 C.x)).set 1 (.int .i64 C.y)).sn bkd 0 (.int .i64 D.x) (by first | assumption | omega)).sn bkd 1 (.int .i64 D.y) (by first | assumption | omega))
 have Cd : Box W7 (bkd) [.int .i64 D.x, .int .i64 D.y] 30 := by rw [hW]; exact ((((Bd.sn bkc 0 (.int .i64 C.x) (by first | assumption | omega)).sn bkc 1 (.int .i64 C.y) (by first | assumption | omega)).set 0 (.int .i64 D.x)).set 1 (.int .i64 D.y))
 replace hw : Below w.heap.size w W7 := by have hl := hw.size; rw [hW]; go_grown
 clear Fc Fd
 clear Fp Fq Fs Fr epbkc epbkc' epbkd epbkd' eqbkc eqbkc' eqbkd eqbkd' esbkc esbkc' esbkd esbkd' erbkc erbkc' erbkd erbkd' ebkcbkd ebkdbkc
 clear hW Bp Bq Bs Br Bc Bd
 have Bp := Cp
 have Bq := Cq
 have Bs := Cs
 have Br := Cr
 have Bc := Cc
 have Bd := Cd
 clear Cp Cq Cs Cr Cc Cd
 refine (cm _).mono ?_
 rintro e w8 ⟨rfl, hb⟩
 replace Bp := Bp.ee hb
 replace Bq := Bq.ee hb
 replace Bs := Bs.ee hb
 replace Br := Br.ee hb
 replace Bc := Bc.ee hb
 replace Bd := Bd.ee hb
 replace hw := upB hw hb
 clear hb
 have Fp := Bp.f
 have Fq := Bq.f
 have Fs := Bs.f
 have Fr := Br.f
 have Fc := Bc.f
 have Fd := Bd.f
 go_wp2
 go_ret
 exact ⟨rfl, by have hl := hw.size; go_grown⟩
end Go.Proofs.YtmobnmjjmafibaaGreat
namespace Go.Proofs.YtmobnmjjmafibaaGreat
open Go.RowKit
theorem mk_okT (a b c : Pt) : okT (mk a b c) := by
 by_cases h : ori a b c = 0
 ·rw [zHu h]
  have z : vld (⟨0, 0⟩ : Pt) = true := by decide
  exact ⟨zEa z, zEa z, zEa z⟩
 ·exact zBx (mk_ok h).1
def FlipC (E : Es) (L : List Tri3) (p q : Pt) (r : Int) (L' : List Tri3) : Prop :=
 (r = 16 ∧ (getE E (p, q) = none ∨ getE E (q, p) = none) ∧ L'.Perm L) ∨
 (∃ S R, getE E (p, q) = some S ∧ getE E (q, p) = some R ∧
  ((meetS p q (apx S p q) (apx R p q) ≠ 1 ∧ r = 2 ∧ L'.Perm L) ∨
   (meetS p q (apx S p q) (apx R p q) = 1 ∧ Repl E L [S, R] [mk (apx S p q) p (apx R p q), mk (apx R p q) q (apx S p q)] r L')))
theorem zHv (mb b : Nat) (E : Es) (L : List Tri3) (g : Good E L) (p q : Pt) (hk : okW (p, q)) (w : World) (Bm : Box w mb [.map (some b)] 89) (Hm : HoldsMap eW eT okW w b E) :
    Calls Tryz.prog 39 #[.pointer (some ⟨mb, 0, none⟩), .agg #[.int .i64 p.x, .int .i64 p.y], .agg #[.int .i64 q.x, .int .i64 q.y]] w fun e w' => ∃ r E' L', e = .returned (.int .i64 r) ∧ w.grownBy w' (some b) ∧ HoldsMap eW eT okW w' b E' ∧ Good E' L' ∧ FlipC E L p q r L' := by
 cases h0 : getE E (p, q) with
 | none =>
  refine (zK3 mb b E p q hk h0 w Bm Hm).mono ?_
  rintro e w' ⟨rfl, hb⟩
  exact ⟨16, E, L, rfl, zA6 hb _, Hm.ee hb, g, .inl ⟨rfl, .inl h0, .refl _⟩⟩
 | some S =>
  cases h1 : getE E (q, p) with
  | none =>
   refine (flip_n1 mb b E p q hk S h0 h1 w Bm Hm).mono ?_
   rintro e w' ⟨rfl, hb⟩
   exact ⟨16, E, L, rfl, zA6 hb _, Hm.ee hb, g, .inl ⟨rfl, .inr h1, .refl _⟩⟩
  | some R =>
   have hS := zBx (g.val _ (g.get.1 h0).1)
   have hR := zBx (g.val _ (g.get.1 h1).1)
   by_cases hm : meetS p q (apx S p q) (apx R p q) = 1
   ·refine (flip_g mb b E p q hk L g S R _ _ _ _ h0 h1 rfl rfl hm rfl rfl hS hR (mk_okT _ _ _) (mk_okT _ _ _) w Bm Hm).mono ?_
    rintro e w' ⟨r, E', L', rfl, hg, H', g', hr⟩
    exact ⟨r, E', L', rfl, hg, H', g', .inr ⟨S, R, h0, h1, .inr ⟨hm, hr⟩⟩⟩
   ·refine (flip_m mb b E p q hk S R _ _ h0 h1 rfl rfl hm w Bm Hm).mono ?_
    rintro e w' ⟨rfl, hb⟩
    exact ⟨2, E, L, rfl, zA6 hb _, Hm.ee hb, g, .inr ⟨S, R, h0, h1, .inl ⟨hm, rfl, .refl _⟩⟩⟩
end Go.Proofs.YtmobnmjjmafibaaGreat
namespace Go.Proofs.YtmobnmjjmafibaaGreat
open Go.RowKit Go.Sort
attribute [local go_sem] rOper rAt rUpon cell_set sg_i64 sg_u64 alloc_cell alloc_frozen
attribute [local go_sem 10000] pt_eql pt_neq tri_eql
attribute [local irreducible] rWalk
theorem zK5 {S T : Tri3} {x y z : Pt} (hS : valT S = true) (hT : valT T = true) (h : Cyc S x y z) (k : Cyc T x y z) : S = T := by
 refine val_cyc hS hT ?_
 rcases k with ⟨e1, e2, e3⟩ | ⟨e1, e2, e3⟩ | ⟨e1, e2, e3⟩
 ·subst e1 e2 e3; exact h
 ·subst e1 e2 e3; exact h.turn.turn
 ·subst e1 e2 e3; exact h.turn
section
variable {W H : Int} {E E' : Es} {L L' : List Tri3} {T : Tri3} {a b c : Pt}
theorem flp_of (t : Tiles W H L) (hW : W < 16777216) (hH : H < 16777216) {S : Tri3} {d : Pt} (hT : T ∈ L) (hS : S ∈ L) (cT : Cyc T a b c) (cS : Cyc S b a d) (hm : meetS a b c d = 1) : ∃ M, Flp (fun _ _ => False) L T S M a b c d := by
 have vb : ∀ q, inBox W H q → vld q = true := fun q hq => by rw [zAr]; unfold inBox at hq; omega
 have pT := t.cyc_pos hT cT
 have pS := t.cyc_pos hS cS
 have va := vb _ (t.cyc_box hT cT)
 have vb' := vb _ (t.cyc_box hT cT.turn)
 have vc := vb _ (t.cyc_box hT cT.turn.turn)
 have vd := vb _ (t.cyc_box hS cS.turn.turn)
 have hne : T ≠ S := by
  rintro rfl
  obtain ⟨n1, n2, n3⟩ := zAh pT
  rcases (cS.cnr_iff c).1 cT.turn.turn.cnr with e | e | e
  ·exact n2 e.symm
  ·exact n3 e
  ·rw [← e, zBw] at pS; omega
 obtain ⟨M, hM⟩ := zEm hT hS hne
 have h2 := (meet_one hm).2
 rw [ori_v vc vd va, ori_v vc vd vb'] at h2
 have e1 : det c a d = -det c d a := by unfold det; grind
 have e2 : det d b c = det c d b := by unfold det; grind
 have e3 : det c a d + det d b c = det a b c + det b a d := by unfold det; grind
 have hs : (0 < det c d b ∧ det c d a < 0) ∨ (det c d b < 0 ∧ 0 < det c d a) := by
  unfold sgn at h2
  split at h2 <;> split at h2 <;> (try split at h2) <;> (try split at h2) <;> omega
 refine ⟨M, hM, cT, cS, ⟨id, id⟩, ?_, ?_⟩ <;> rcases hs with hs | hs <;> omega
theorem mb_first (g : Good E L) (hT : T ∈ L) (cT : Cyc T a b c) {r : Int} (h : FlipC E L a b r L') :
    (r = 16 ∧ (lftE E b a).2 = false ∧ L'.Perm L) ∨ ((lftE E b a).2 = true ∧ r = 2 ∧ L'.Perm L) ∨ (∃ S, lftE E b a = (S, true) ∧ S ∈ L ∧ (b, a) ∈ ways S ∧ meetS a b (apx T a b) (apx S a b) = 1 ∧ Repl E L [T, S] [mk (apx T a b) a (apx S a b), mk (apx S a b) b (apx T a b)] r L') := by
 have h1 : getE E (a, b) = some T := g.get.2 ⟨hT, cT.way⟩
 rcases h with ⟨r0, h2 | h2, p⟩ | ⟨S, R, h2, h3, h4⟩
 ·rw [h1] at h2; cases h2
 ·exact .inl ⟨r0, by rw [zC8 h2], p⟩
 ·rw [h1] at h2
  obtain rfl : T = S := Option.some.inj h2
  rcases h4 with ⟨_, r0, p⟩ | ⟨hm, hr⟩
  ·exact .inr (.inl ⟨by rw [zBe h3], r0, p⟩)
  ·exact .inr (.inr ⟨R, zBe h3, (g.get.1 h3).1, (g.get.1 h3).2, hm, hr⟩)
theorem mb_apx (t : Tiles W H L) {S : Tri3} (hT : T ∈ L) (hS : S ∈ L) (cT : Cyc T a b c) (wS : (b, a) ∈ ways S) : apx T a b = c ∧ ∃ d, Cyc S b a d ∧ apx S a b = d ∧ b ≠ a ∧ a ≠ d ∧ d ≠ b := by
 obtain ⟨d, cS⟩ := zDd wS
 obtain ⟨n1, n2, n3⟩ := zAh (t.cyc_pos hT cT)
 obtain ⟨m1, m2, m3⟩ := zAh (t.cyc_pos hS cS)
 exact ⟨(zEj cT n1 n2 n3).1, d, cS, (zEj cS m1 m2 m3).2, m1, m2, m3⟩
theorem mb_flip (g : Good E L) (t : Tiles W H L) (hW : W < 16777216) (hH : H < 16777216) {S : Tri3} {d : Pt} (hT : T ∈ L) (hS : S ∈ L) (cT : Cyc T a b c) (cS : Cyc S b a d) (hm : meetS a b c d = 1) {r : Int} (g' : Good E' L')
    (h : Repl E L [T, S] [mk c a d, mk d b c] r L') : r = 0 ∧ Tiles W H L' ∧ L'.length = L.length ∧ (∀ p, someC L' p ↔ someC L p) ∧ hasE E' T = false ∧
     ∀ r2 E2 L2, Good E2 L2 → FlipC E' L' c d r2 L2 → r2 = 0 ∧ L2.Perm L := by
 obtain ⟨M, f⟩ := flp_of t hW hH hT hS cT cS hm
 obtain ⟨⟨k1, k2⟩, k3⟩ := f.good g t hW hH
 have t' := f.tiles t hW hH
 have l2 : ([T, S] : List Tri3).length = 2 := rfl
 have l2' : ([mk c a d, mk d b c] : List Tri3).length = 2 := rfl
 rcases h with ⟨_, h1, _⟩ | ⟨_, _, h1, _⟩ | ⟨h0, _, _, M2, h4, h5⟩
 ·rw [l2] at h1; omega
 ·rw [l2'] at h1; omega
 have pM : M2.Perm M := by
  have := h4.symm.trans f.perm
  exact (List.perm_cons S).1 ((List.perm_cons T).1 (by simpa using this))
 have p5 : L'.Perm (mk c a d :: mk d b c :: M) := h5.trans (by simpa using (pM.append_left [mk c a d, mk d b c]))
 obtain ⟨u, v⟩ := f.news t hW hH
 have T' := t'.perm p5.symm
 refine ⟨h0, T', ?_, fun p => ?_, ?_, fun r2 E2 L2 g2 h2 => ?_⟩
 ·rw [p5.length_eq, f.perm.length_eq]; rfl
 ·have k := (f.kept t hW hH).cnr p
  unfold someC at k ⊢
  rw [← k]
  exact ⟨fun ⟨X, h, q⟩ => ⟨X, p5.mem_iff.1 h, q⟩, fun ⟨X, h, q⟩ => ⟨X, p5.mem_iff.2 h, q⟩⟩
 ·rw [← Bool.not_eq_true]
  intro e
  have hm' := p5.mem_iff.1 (g'.has.1 e)
  have hw : (a, b) ∈ ways T := cT.way
  obtain ⟨n1, n2, n3⟩ := zAh (t.cyc_pos hT cT)
  obtain ⟨m1, m2, m3⟩ := zAh (t.cyc_pos hS cS)
  rcases List.mem_cons.1 hm' with e | hm'
  ·rw [e, u.1.ways.mem_iff] at hw
   simp only [List.mem_cons, Prod.mk.injEq, List.not_mem_nil, or_false] at hw
   rcases hw with ⟨h, _⟩ | ⟨_, h⟩ | ⟨h, _⟩
   ·exact n3 h.symm
   ·exact m3 h.symm
   ·exact m2 h
  ·rcases List.mem_cons.1 hm' with e | hm'
   ·rw [e, v.1.ways.mem_iff] at hw
    simp only [List.mem_cons, Prod.mk.injEq, List.not_mem_nil, or_false] at hw
    rcases hw with ⟨h, _⟩ | ⟨h, _⟩ | ⟨h, _⟩
    ·exact m2 h
    ·exact n1 h
    ·exact n3 h.symm
   ·have n := f.perm.nodup_iff.1 (zH2 t.once)
    rw [List.nodup_cons] at n
    exact n.1 (List.mem_cons_of_mem _ hm')
 ·have mU : mk c a d ∈ L' := p5.mem_iff.2 (by simp)
  have mV : mk d b c ∈ L' := p5.mem_iff.2 (by simp)
  have cV : Cyc (mk d b c) c d b := v.1.turn.turn
  have cU : Cyc (mk c a d) d c a := u.1.turn.turn
  obtain ⟨q1, q2, q3⟩ := zAh (T'.cyc_pos mV cV)
  obtain ⟨o1, o2, o3⟩ := zAh (T'.cyc_pos mU cU)
  have aV := (zEj cV q1 q2 q3).1
  have aU := (zEj cU o1 o2 o3).2
  have gV : getE E' (c, d) = some (mk d b c) := g'.get.2 ⟨mV, cV.way⟩
  have gU : getE E' (d, c) = some (mk c a d) := g'.get.2 ⟨mU, cU.way⟩
  have hm2 : meetS c d b a = 1 := by
   rw [meet_sw3, meet_sw1]; exact hm
  rcases h2 with ⟨_, k | k, _⟩ | ⟨S2, R2, k, k', h2⟩
  ·rw [gV] at k; cases k
  ·rw [gU] at k; cases k
  rw [gV] at k
  rw [gU] at k'
  obtain rfl := Option.some.inj k
  obtain rfl := Option.some.inj k'
  rw [aV, aU] at h2
  rcases h2 with ⟨k, _⟩ | ⟨_, h2⟩
  ·exact absurd hm2 k
  obtain ⟨N, f2⟩ := flp_of T' hW hH mV mU cV cU hm2
  obtain ⟨⟨j1, j2⟩, _⟩ := f2.good g' T' hW hH
  have t2 := f2.news T' hW hH
  have eT : mk b c a = T := zK5 t2.1.2 (g.val T hT) t2.1.1 cT.turn
  have eS : mk a d b = S := zK5 t2.2.2 (g.val S hS) t2.2.1 cS.turn
  have l3 : ([mk d b c, mk c a d] : List Tri3).length = 2 := rfl
  have l4 : ([mk b c a, mk a d b] : List Tri3).length = 2 := rfl
  rcases h2 with ⟨_, h1, _⟩ | ⟨_, _, h1, _⟩ | ⟨h0, _, _, M3, h6, h7⟩
  ·rw [l3] at h1; omega
  ·rw [l4] at h1; omega
  ·refine ⟨h0, ?_⟩
   have q4 : (mk d b c :: mk c a d :: M).Perm L' := (List.Perm.swap _ _ _).trans p5.symm
   have p3 : M3.Perm M := by
    have := h6.symm.trans q4.symm
    exact (List.perm_cons (mk c a d)).1 ((List.perm_cons (mk d b c)).1 (by simpa using this))
   rw [eT, eS] at h7
   exact h7.trans ((by simpa using p3.append_left [T, S] : ([T, S] ++ M3).Perm (T :: S :: M)).trans f.perm.symm)
end
theorem nlen  (w : World) :
    Calls Tryz.prog 20 #[.pointer none] w fun e w' => e = .returned (.int .i64 0) ∧ Below w.heap.size w w' := by
 go_enter Tryz.func20, Tryz.ntmps20
 go_wp2_with fail
 go_ret
 exact ⟨rfl, Below.refl _ _⟩
theorem nleft (p q : Pt) (w : World) :
    Calls Tryz.prog 38 #[.pointer none, .agg #[.int .i64 p.x, .int .i64 p.y], .agg #[.int .i64 q.x, .int .i64 q.y]] w fun e w' => e = .returned (.tuple #[.agg #[.int .i64 0, .int .i64 0, .int .i64 0, .int .i64 0, .int .i64 0, .int .i64 0], .bool false]) ∧ Below w.heap.size w w' := by
 go_enter Tryz.func38, Tryz.ntmps38
 go_wp2_with fail
 refine bodyPost_ret (v := .tuple #[.agg #[.int .i64 0, .int .i64 0, .int .i64 0, .int .i64 0, .int .i64 0, .int .i64 0], .bool false]) (by simp [results, Tryz.results38, go_sem]) rfl ⟨rfl, by go_grown⟩
theorem nhas (T : Tri3) (w : World) :
    Calls Tryz.prog 37 #[.pointer none, .agg #[.int .i64 T.A.x, .int .i64 T.A.y, .int .i64 T.B.x, .int .i64 T.B.y, .int .i64 T.C.x, .int .i64 T.C.y]] w fun e w' => e = .returned (.bool false) ∧ Below w.heap.size w w' := by
 go_enter Tryz.func37, Tryz.ntmps37
 go_wp2_with fail
 refine zA1 fun W1 hW => ?_
 have Bt : Box W1 (w.heap.size) [.int .i64 T.A.x, .int .i64 T.A.y, .int .i64 T.B.x, .int .i64 T.B.y, .int .i64 T.C.x, .int .i64 T.C.y] 38 := by rw [hW]; exact Box.new rfl
 have hw : Below w.heap.size w W1 := by rw [hW]; go_grown
 clear hW
 refine (nleft T.A T.B _).mono ?_
 rintro e w2 ⟨rfl, hb⟩
 replace Bt := Bt.ee hb
 replace hw := upB hw hb
 clear hb
 have Ft := Bt.f
 go_wp2
 go_ret
 exact ⟨rfl, by have hl := hw.size; go_grown⟩
theorem nflip (p q : Pt) (w : World) :
    Calls Tryz.prog 39 #[.pointer none, .agg #[.int .i64 p.x, .int .i64 p.y], .agg #[.int .i64 q.x, .int .i64 q.y]] w fun e w' => e = .returned (.int .i64 16) ∧ Below w.heap.size w w' := by
 go_enter Tryz.func39, Tryz.ntmps39
 go_wp2_with fail
 refine zA1 fun W1 hW => ?_
 have Bp : Box W1 (w.heap.size) [.int .i64 p.x, .int .i64 p.y] 30 := by rw [hW]; exact (Box.new rfl).old _
 have Bq : Box W1 (w.heap.size + 1) [.int .i64 q.x, .int .i64 q.y] 30 := by rw [hW]; exact Box.new (by simp)
 have hw : Below w.heap.size w W1 := by rw [hW]; go_grown
 clear hW
 refine (nleft p q _).mono ?_
 rintro e w2 ⟨rfl, hb⟩
 replace Bp := Bp.ee hb
 replace Bq := Bq.ee hb
 replace hw := upB hw hb
 clear hb
 have F_pq := J2 Bp.f Bq.f
 go_wp2
 go_ret
 exact ⟨rfl, by have hl := hw.size; go_grown⟩
abbrev awZ : Tri3 := ⟨⟨0, 0⟩, ⟨0, 0⟩, ⟨0, 0⟩⟩
abbrev awS : Tri3 := ⟨⟨0, 0⟩, ⟨1, 0⟩, ⟨1, 1⟩⟩
abbrev awT : Tri3 := ⟨⟨0, 0⟩, ⟨1, 1⟩, ⟨0, 1⟩⟩
abbrev awU : Tri3 := mk ⟨0, 1⟩ ⟨0, 0⟩ ⟨1, 0⟩
abbrev awV : Tri3 := mk ⟨1, 0⟩ ⟨1, 1⟩ ⟨0, 1⟩
def awE : Es := (putRun [] [awT, awS]).2
def awF : Es := (putRun (takeRun awE [awT, awS]).2 [awU, awV]).2
theorem aw_f1 : (putRun [] [awT, awS]).1 = 2 := by decide
theorem aw_f2 : (putRun [] [awS, awS]).1 < 2 := by decide
theorem aw_f3 : (putRun [] [awZ]).1 < 1 := by decide
theorem aw_f4 : srt cmpT (heads (fun _ => true) awE) = [awS, awT] := by
 unfold srt; rw [show heads (fun _ => true) awE = [awS, awT] by kernel_rfl]; exact List.mergeSort_of_pairwise (by decide)
theorem aw_f5 : acrE awE awS 2 = (awT, true) := by kernel_rfl
theorem aw_f6 : acrE awE awS 0 = (awZ, false) := by kernel_rfl
theorem aw_f7 : getE awE (⟨0, 0⟩, ⟨1, 1⟩) = some awT := by kernel_rfl
theorem aw_f8 : getE awE (⟨1, 1⟩, ⟨0, 0⟩) = some awS := by kernel_rfl
theorem aw_f9 : apx awT ⟨0, 0⟩ ⟨1, 1⟩ = ⟨0, 1⟩ := by kernel_rfl
theorem aw_f10 : apx awS ⟨0, 0⟩ ⟨1, 1⟩ = ⟨1, 0⟩ := by kernel_rfl
theorem aw_f11 : meetS ⟨0, 0⟩ ⟨1, 1⟩ ⟨0, 1⟩ ⟨1, 0⟩ = 1 := by kernel_rfl
theorem aw_f12 : (takeRun awE [awT, awS]).1 = 2 := by kernel_rfl
theorem aw_f13 : (putRun (takeRun awE [awT, awS]).2 [awU, awV]).1 = 2 := by kernel_rfl
theorem aw_f14 : getE awF (⟨0, 0⟩, ⟨1, 1⟩) = none := by kernel_rfl
theorem aw_f15 : hasE awF awS = false := by kernel_rfl
theorem aw_f16 : awF.length = 3 * 2 := by kernel_rfl
theorem aw_f17 : awE.length ≤ 1000000 := by rw [show awE.length = 6 by kernel_rfl]; decide
theorem aw_f18 {Mz : List Pt} (h : Rising cmpP Mz) (hm : ∀ p, p ∈ Mz ↔ p ∈ froms awF) : Mz.length = 4 := by
 have e : Mz = [⟨0, 0⟩, ⟨0, 1⟩, ⟨1, 0⟩, ⟨1, 1⟩] := zCg wholeP h (by unfold Rising; decide) (fun p => by
  rw [hm p, show froms awF = froms awF from rfl]
  constructor
  ·exact (show ∀ x ∈ froms awF, x ∈ ([⟨0, 0⟩, ⟨0, 1⟩, ⟨1, 0⟩, ⟨1, 1⟩] : List Pt) by decide) p
  ·exact (show ∀ x ∈ ([⟨0, 0⟩, ⟨0, 1⟩, ⟨1, 0⟩, ⟨1, 1⟩] : List Pt), x ∈ froms awF by decide) p)
 rw [e]; rfl
end Go.Proofs.YtmobnmjjmafibaaGreat
namespace Go.Proofs.YtmobnmjjmafibaaGreat
open Go.RowKit Go.Sort
section
variable {P : Program} {ops : Array Oper} {md : Region.Mode} {C : World → Prop}
def doneB (n : Nat) (listed : Array Bool) : Bool := (List.range n).all fun i => listed.getD i false
def seqL (md : Region.Mode) (ops : Array Oper) : List Nat → Array Bool → Bool
 | [], listed => (Region.ready md ops listed).isEmpty
 | k :: js, listed => decide (Region.ready md ops listed = [k]) && seqL md ops js (listed.setIfInBounds k true)
theorem zE9 {Q : Exit → Act → World → Prop} : ∀ (js : List Nat) (l : List Oper) (listed : Array Bool) (a : Act) (w : World), js.map (fun j => ops[j]?) = l.map some →
    seqL md ops js listed = true → wpList P ops Q l a w → wpAny P md ops Q js.length listed a w
 | [], [], _, _, _, _, hB, h => ⟨by simpa [seqL] using hB, h⟩
 | [], _ :: _, _, _, _, hl, _, _ => by cases hl
 | _ :: _, [], _, _, _, hl, _, _ => by cases hl
 | k :: js, o :: l, listed, a, w, hl, hB, h => by
  simp only [List.map_cons, List.cons.injEq] at hl
  obtain ⟨h0, hl⟩ := hl
  simp only [seqL, Bool.and_eq_true, decide_eq_true_eq] at hB
  refine ⟨fun h1 => (by rw [hB.1] at h1; cases h1), fun i hi => ?_⟩
  rw [hB.1] at hi
  have hik : i = k := by simpa using hi
  subst hik
  have hw : wpOp P ops Q i (wpList P ops Q l) a w := by unfold wpOp; simp only [h0]; exact h
  exact wpOp_mono (fun a' w' h' => zE9 js l _ a' w' hl hB.2 h') hw
end
def orderPre (md : Region.Mode) (ops : Array Oper) (n : Nat) : List Nat → Array Bool → Bool
 | [], _ => true
 | k :: is, listed => decide (k < n) && (Region.ready md ops listed).contains k && Region.free md ops listed k && orderPre md ops n is (listed.setIfInBounds k true)
def listAll : List Nat → Array Bool → Array Bool
 | [], l => l
 | k :: is, l => listAll is (l.setIfInBounds k true)
section
variable {P : Program} {C : World → Prop}
end
section
variable {P : Program} {ops : Array Oper} {md : Region.Mode} {C : World → Prop}
def downB (md : Region.Mode) (ops : Array Oper) (n : Nat) : Bool :=
 (List.range ops.size).all fun t => decide (t ≤ n) || (List.range ops.size).any fun j => decide (n ≤ j) && Region.waitsFor md ops t j
theorem zH5 {n : Nat} {listed : Array Bool} (hs : Region.sinkB md ops n = true) (hd : downB md ops n = true) (hn : n < ops.size) (inv : HeadInv md ops n listed) : TailWaits md ops n listed := by
 intro i hi hun t ht hr
 obtain ⟨_, ot, hot, hall⟩ := mem_ready.1 hr
 have htlt : t < ops.size := (Array.getElem?_eq_some_iff.1 hot).1
 by_cases htn : t = n
 ·subst htn
  have low : ∀ (d i : Nat), t - i = d → i < t → listed.getD i true = false → False := by
   intro d
   induction d using Nat.strongRecOn with
   | _ d ih =>
    intro i hd' hi hun
    have h1 := List.all_eq_true.1 hs i (List.mem_range.2 hi)
    obtain ⟨j, hj, h2⟩ := List.any_eq_true.1 h1
    have hj' := List.mem_range.1 hj
    simp only [Bool.and_eq_true, decide_eq_true_eq] at h2
    obtain ⟨hij, hw⟩ := h2
    unfold Region.waitsFor at hw
    cases hoj : ops[j]? with
    | none => rw [hoj] at hw; cases hw
    | some oj =>
     rw [hoj] at hw
     obtain ⟨e, he, hb⟩ := Array.any_eq_true'.1 hw
     simp only [Bool.and_eq_true, beq_iff_eq] at hb
     by_cases hjt : j = t
     ·subst hjt
      have : ot = oj := Option.some.inj (hot.symm.trans hoj)
      subst this
      have h3 := hall e he (by first | exact hb.1 | exact hb.2)
      have h4 : e.on = i := by first | exact hb.2 | exact hb.1
      rw [h4, getD_both hun] at h3; cases h3
     ·refine ih (t - j) (by omega) j rfl (by omega) ?_
      cases hl : listed.getD j true with
      | false => rfl
      | true =>
       have hjs : j < listed.size := by rw [inv.size]; omega
       have hl' : listed.getD j false = true := by simpa [hjs] using hl
       have h3 := inv.closed j oj hoj hl' e he (by first | exact hb.1 | exact hb.2)
       have h4 : e.on = i := by first | exact hb.2 | exact hb.1
       rw [h4, getD_both hun] at h3; cases h3
  exact low _ i rfl hi hun
 ·have h1 := List.all_eq_true.1 hd t (List.mem_range.2 htlt)
  simp only [Bool.or_eq_true, decide_eq_true_eq] at h1
  rcases h1 with h1 | h1
  ·omega
  ·obtain ⟨j, hj, h2⟩ := List.any_eq_true.1 h1
   simp only [Bool.and_eq_true, decide_eq_true_eq] at h2
   obtain ⟨hnj, hw⟩ := h2
   unfold Region.waitsFor at hw
   rw [hot] at hw
   obtain ⟨e, he, hb⟩ := Array.any_eq_true'.1 hw
   simp only [Bool.and_eq_true, beq_iff_eq] at hb
   have h3 := hall e he (by first | exact hb.1 | exact hb.2)
   have h4 : e.on = j := by first | exact hb.2 | exact hb.1
   rw [h4, getD_both (inv.tail j hnj (List.mem_range.1 hj))] at h3; cases h3
theorem zEf {n : Nat} {S : Array Bool → Bool} : ∀ (is js : List Nat) (l : Array Bool), orderPre md ops n is l = true → orderG md ops n S js (listAll is l) = true → orderG md ops n S (is ++ js) l = true
 | [], _, _, _, h => h
 | k :: is, js, l, h1, h2 => by
  simp only [orderPre, Bool.and_eq_true] at h1
  simp only [List.cons_append, orderG, Bool.and_eq_true]
  exact ⟨h1.1, zEf is js _ h1.2 h2⟩
def orderInG (md : Region.Mode) (ops : Array Oper) (n : Nat) : List (List Nat) → Array Bool → Prop
 | [], _ => True
 | is :: cs, l => orderPre md ops n is l = true ∧ orderInG md ops n cs (listAll is l)
theorem zD7 {n : Nat} {S : Array Bool → Bool} : ∀ (cs : List (List Nat)) (l : Array Bool), orderInG md ops n cs l → S (listAll cs.flatten l) = true → orderG md ops n S cs.flatten l = true
 | [], _, _, h => h
 | is :: cs, l, h, hS => by
  rw [List.flatten_cons]
  refine zEf is _ l h.1 (zD7 cs _ h.2 ?_)
  rw [List.flatten_cons, show ∀ (is js : List Nat) (l : Array Bool), listAll (is ++ js) l = listAll js (listAll is l) from fun is => by
   induction is with
   | nil => intro js l; rfl
   | cons k is ih => intro js l; exact ih js _] at hS
  exact hS
theorem zFo {n : Nat} : ∀ (is : List Nat) (l : Array Bool), HeadInv md ops n l → orderPre md ops n is l = true → HeadInv md ops n (listAll is l)
 | [], _, h, _ => h
 | k :: is, l, h, hB => by
  simp only [orderPre, Bool.and_eq_true, decide_eq_true_eq] at hB
  exact zFo is _ (h.set (by simpa using hB.1.1.2) hB.1.1.1) hB.2
theorem zDo : ∀ (is js : List Nat) (l : Array Bool), listAll (is ++ js) l = listAll js (listAll is l)
 | [], _, _ => rfl
 | _ :: is, js, _ => zDo is js _
theorem zH0 {n : Nat} : ∀ (cs : List (List Nat)) (l : Array Bool), HeadInv md ops n l → orderInG md ops n cs l → HeadInv md ops n (listAll cs.flatten l)
 | [], _, h, _ => h
 | is :: cs, l, h, hB => by
  rw [List.flatten_cons, zDo]
  exact zH0 cs _ (zFo is l h hB.1) hB.2
def canon (ops : Array Oper) (n : Nat) : Array Bool := listAll (List.range n) (Array.replicate ops.size false)
theorem wp_region_once {id : Nat} {Q : Exit → Act → World → Prop} {a : Act} {w : World} {l : List Oper} (n1 n2 : Nat) (c1 c2 : List (List Nat)) (js : List Nat) {o : Oper} (hm : P.follows .mixedOrders = true)
    (hsel : Region.noSelect l.toArray = true) (hn : n1 + (((n2 - (n1 + 1)) + js.length) + 1) = l.toArray.size) (hn2 : n1 < n2) (hn3 : n2 < l.toArray.size)
    (hs1 : Region.sinkB .any l.toArray n1 = true) (hd1 : downB .any l.toArray n1 = true) (hs2 : Region.sinkB .any l.toArray n2 = true) (hd2 : downB .any l.toArray n2 = true)
    (hc1 : c1.flatten = List.range n1) (hc2 : c2.flatten = List.range' (n1 + 1) (n2 - (n1 + 1)))
    (ho1 : orderInG .any l.toArray n1 c1 (Array.replicate l.toArray.size false)) (hmid : (doneB n1 (canon l.toArray n1) && decide (Region.ready .any l.toArray (canon l.toArray n1) = [n1])) = true)
    (ho2 : orderInG .any l.toArray n2 c2 ((canon l.toArray n1).setIfInBounds n1 true))
    (hend : (doneB n2 (listAll (List.range' (n1 + 1) (n2 - (n1 + 1))) ((canon l.toArray n1).setIfInBounds n1 true)) && seqL .any l.toArray js (listAll (List.range' (n1 + 1) (n2 - (n1 + 1))) ((canon l.toArray n1).setIfInBounds n1 true))) = true)
    (hf : l.toArray[n1]? = some o) (hjs : js.map (fun j => l.toArray[j]?) = (l.drop n2).map some)
    (h1 : (List.range n1).map (fun i => l.toArray[i]?) = (l.take n1).map some) (h2 : (List.range' (n1 + 1) (n2 - (n1 + 1))).map (fun i => l.toArray[i]?) = ((l.drop (n1 + 1)).take (n2 - (n1 + 1))).map some)
    (hC : ∀ w', Below w.heap.size w w' → C w')
    (h : rWalk P l.toArray C (fun a1 => Region.wanted o (yielded l.toArray a1.tmps) = true ∧ ∀ w', Below w.heap.size w w' → o.wp P a1 w' (fun a2 w2 => Below w.heap.size w w2 ∧ rWalk P l.toArray C (fun a3 => ∀ w', Below w.heap.size w w' → wpList P l.toArray Q (l.drop n2) a3 w') ((l.drop (n1 + 1)).take (n2 - (n1 + 1))) a2) Q) (l.take n1) a) : (Code.region id l.toArray true).wp P Q a w := by
 simp only [Bool.and_eq_true, decide_eq_true_eq] at hmid
 have inv1 : HeadInv .any l.toArray n1 (canon l.toArray n1) := by
  have := zH0 c1 _ (headInv0 (md := .any) (ops := l.toArray) (n := n1)) ho1
  rwa [hc1] at this
 have inv2 : HeadInv .any l.toArray n2 ((canon l.toArray n1).setIfInBounds n1 true) :=
  HeadInv.set (n := n2) ⟨inv1.size, inv1.closed, fun t ht ht' => inv1.tail t (by omega) ht'⟩ (by rw [hmid.2]; simp) hn2
 have H := zE0 (md := .any) (C := C) (S := fun m => decide (m = canon l.toArray n1 ∧ True)) hsel (HeadInv .any l.toArray n1) (fun listed j inv hj hjn => inv.set hj hjn)
  (fun listed inv => zH5 hs1 hd1 (by omega) inv)
  (fun listed hS => by have := of_decide_eq_true hS; rw [this.1]; exact zDr hmid.1) (List.range n1) (l.take n1) _ a h1 headInv0 (by rw [← hc1]; exact zD7 c1 _ ho1 (by rw [hc1]; exact decide_eq_true ⟨rfl, trivial⟩)) h
 refine wp_region_any hm ?_
 have := zFz (md := .any) (Q := Q) (g := ((n2 - (n1 + 1)) + js.length) + 1) (D := fun w' => Below w.heap.size w w') hC (fun a b ha hb => Ext.trans (a := w) ha hb)
  (fun listed a1 w1 hw1 hL => by
   obtain ⟨hS, hwa, hy⟩ := hL
   have hS := (of_decide_eq_true hS).1
   subst hS
   refine ⟨fun h1 => (by rw [hmid.2] at h1; cases h1), fun i hi => ?_⟩
   rw [hmid.2] at hi
   have hik : i = n1 := by simpa using hi
   subst hik
   unfold wpOp
   simp only [hf, hwa, if_true]
   refine Or.inl (Oper.wp_mono (fun a2 w2 hK => ?_) (hy w1 hw1))
   obtain ⟨hw2, hK⟩ := hK
   have H2 := zE0 (md := .any) (C := C) (S := fun m => doneB n2 m && seqL .any l.toArray js m) hsel (HeadInv .any l.toArray n2) (fun listed j inv hj hjn => inv.set hj hjn)
    (fun listed inv => zH5 hs2 hd2 hn3 inv)
    (fun listed hS => zDr (by simp only [Bool.and_eq_true] at hS; exact hS.1)) (List.range' (i + 1) (n2 - (i + 1))) ((l.drop (i + 1)).take (n2 - (i + 1))) _ _ h2 inv2 (by rw [← hc2]; exact zD7 c2 _ ho2 (by rw [hc2]; exact hend)) hK
   have := zFz (md := .any) (Q := Q) (g := js.length) (D := fun w' => Below w.heap.size w w') hC (fun a b ha hb => Ext.trans (a := w) ha hb)
    (fun listed a3 w3 hw3 hL => by
     obtain ⟨hS, hK⟩ := hL
     simp only [Bool.and_eq_true] at hS
     exact zE9 js _ listed a3 w3 hjs hS.2 (hK w3 hw3)) _ _ _ w2 hw2 H2
   rw [List.length_range'] at this
   exact this) _ _ _ { w with drawn := w.drawn + 1 } ⟨rfl, rfl, rfl, Nat.le_refl _, fun _ _ => rfl⟩ H
 rw [List.length_range, hn] at this
 exact this
end
attribute [local go_sem] rOper rAt rUpon cell_set sg_i64 sg_u64 alloc_cell alloc_frozen
attribute [local go_sem 10000] pt_eql pt_neq tri_eql
attribute [local irreducible] rWalk
attribute [local go_sem 10000] tri_neq
theorem okT_aw : okT awS ∧ okT awT ∧ okT awZ ∧ okT awU ∧ okT awV := by
 simp only [awU, awV, show mk ⟨0, 1⟩ ⟨0, 0⟩ ⟨1, 0⟩ = ⟨⟨0, 0⟩, ⟨1, 0⟩, ⟨0, 1⟩⟩ by kernel_rfl, show mk ⟨1, 0⟩ ⟨1, 1⟩ ⟨0, 1⟩ = ⟨⟨0, 1⟩, ⟨1, 0⟩, ⟨1, 1⟩⟩ by kernel_rfl]
 unfold okT okP okI; decide
theorem zEv (w : World) :
    Calls Tryz.prog 29 #[] w fun e w' => e = .returned (.bool true) ∧ Below w.heap.size w w' := by
 go_enter Tryz.func29, Tryz.ntmps29
 obtain ⟨oS, oT, oZ, oU, oV⟩ := okT_aw
 have cn1 := fun a w R => mnew_1 a 2 2 [awT, awS] (Lib.hid rfl) (by decide) (by simpa using ⟨oT, oS⟩) aw_f1 w R
 have cn2 := fun a w R => mnew_0 a 2 2 [awS, awS] (Lib.hid rfl) (by decide) (by simpa using oS) aw_f2 w R
 have cn3 := fun a w R => mnew_0 a 1 1 [awZ] (Lib.hid rfl) (by decide) (by simpa using oZ) aw_f3 w R
 go_wp2_with fail
 refine zA1 fun W1 hW => ?_
 have Bs : Box W1 (w.heap.size) [.int .i64 0, .int .i64 0, .int .i64 1, .int .i64 0, .int .i64 1, .int .i64 1] 38 := by rw [hW]; exact ((Box.new rfl).old _).old _
 have Bt : Box W1 (w.heap.size + 1) [.int .i64 0, .int .i64 0, .int .i64 1, .int .i64 1, .int .i64 0, .int .i64 1] 38 := by rw [hW]; exact (Box.new (by simp)).old _
 have Bl1 : Box W1 (w.heap.size + 1 + 1) [.int .i64 0, .int .i64 0, .int .i64 1, .int .i64 1, .int .i64 0, .int .i64 1, .int .i64 0, .int .i64 0, .int .i64 1, .int .i64 0, .int .i64 1, .int .i64 1] 38 := by rw [hW]; exact Box.new (by simp)
 have hw : Below w.heap.size w W1 := by rw [hW]; go_grown
 clear hW
 have R1 : RowAt cT 6 W1 (some ⟨w.heap.size + 1 + 1, 0, none⟩) [awT, awS] := zBp (S := [awT, awS]) Bl1
 refine (cn1 _ _ R1).mono ?_
 rintro e w2 ⟨mb, b, rfl, Bm, Hm0, hbb, hmb, hb⟩
 have hwb : w.heap.size ≤ b := Nat.le_trans hw.size hbb
 clear R1 Bl1 cn1 hbb hmb
 replace Bs := Bs.ee hb
 replace Bt := Bt.ee hb
 have hw0 := (upB hw hb)
 clear hb hw
 have Hm : HoldsMap eW eT okW w2 b awE := Hm0
 clear Hm0
 have hw : Below w2.heap.size w2 w2 := Below.refl _ _
 have Fs := Bs.f
 have Ft := Bt.f
 go_wp2_with fail
 clear Fs Ft
 refine zA1 fun W21 hW => ?_
 obtain ⟨bkl2, hbl2⟩ : ∃ b, w2.heap.size = b := ⟨_, rfl⟩
 rw [hbl2]
 have lsl2 := Bs.lt
 rw [hbl2] at lsl2
 have ltl2 := Bt.lt
 rw [hbl2] at ltl2
 have fl2 := hw.size
 rw [hbl2] at fl2
 have Bl2 : Box W21 bkl2 [.int .i64 0, .int .i64 0, .int .i64 1, .int .i64 0, .int .i64 1, .int .i64 1, .int .i64 0, .int .i64 0, .int .i64 1, .int .i64 0, .int .i64 1, .int .i64 1] 38 := by rw [hW]; exact Box.new hbl2.symm
 replace Bs : Box W21 (w.heap.size) [.int .i64 0, .int .i64 0, .int .i64 1, .int .i64 0, .int .i64 1, .int .i64 1] 38 := by rw [hW]; exact Bs.old _
 replace Bt : Box W21 (w.heap.size + 1) [.int .i64 0, .int .i64 0, .int .i64 1, .int .i64 1, .int .i64 0, .int .i64 1] 38 := by rw [hW]; exact Bt.old _
 replace hw : Below w2.heap.size w2 W21 := by have hl := hw.size; rw [hW]; go_grown
 clear hW hbl2
 refine (cn2 _ _ (zBp (S := [awS, awS]) Bl2)).mono ?_
 rintro e w22 ⟨rfl, hb⟩
 replace Bs := Bs.ee hb
 replace Bt := Bt.ee hb
 replace Bl2 := Bl2.ee hb
 replace hw := upB hw hb
 clear hb
 clear Bl2 cn2
 have Fs := Bs.f
 have Ft := Bt.f
 go_wp2_with fail
 clear Fs Ft
 refine zA1 fun W23 hW => ?_
 obtain ⟨bkl3, hbl3⟩ : ∃ b, w22.heap.size = b := ⟨_, rfl⟩
 rw [hbl3]
 have lsl3 := Bs.lt
 rw [hbl3] at lsl3
 have ltl3 := Bt.lt
 rw [hbl3] at ltl3
 have fl3 := hw.size
 rw [hbl3] at fl3
 have Bl3 : Box W23 bkl3 [.int .i64 0, .int .i64 0, .int .i64 0, .int .i64 0, .int .i64 0, .int .i64 0] 38 := by rw [hW]; exact Box.new hbl3.symm
 replace Bs : Box W23 (w.heap.size) [.int .i64 0, .int .i64 0, .int .i64 1, .int .i64 0, .int .i64 1, .int .i64 1] 38 := by rw [hW]; exact Bs.old _
 replace Bt : Box W23 (w.heap.size + 1) [.int .i64 0, .int .i64 0, .int .i64 1, .int .i64 1, .int .i64 0, .int .i64 1] 38 := by rw [hW]; exact Bt.old _
 replace hw : Below w2.heap.size w2 W23 := by have hl := hw.size; rw [hW]; go_grown
 clear hW hbl3
 refine (cn3 _ _ (zBp (S := [awZ]) Bl3)).mono ?_
 rintro e w24 ⟨rfl, hb⟩
 replace Bs := Bs.ee hb
 replace Bt := Bt.ee hb
 replace Bl3 := Bl3.ee hb
 replace hw := upB hw hb
 clear hb
 clear Bl3 cn3
 have Fs := Bs.f
 have Ft := Bt.f
 go_wp2_with fail
 have ct := fun w B H => zDk mb b awE aw_f17 w B H
 rw [aw_f4] at ct
 refine (ct _ (Bm.ee hw) (Hm.ee hw)).mono ?_
 rintro e w30 ⟨a, cap, rfl, hr, hb⟩
 clear Fs Ft
 replace Bs := Bs.ee hb
 replace Bt := Bt.ee hb
 have hwr := (upB hw hb)
 replace Bm := Bm.ee hwr
 replace Hm := Hm.ee hwr
 replace hw0 := upB hw0 hwr
 clear hw ct hwr hb
 have hw : Below w30.heap.size w30 w30 := Below.refl _ _
 have ca2 : ∀ (w : World) (Bm : Box w mb [.map (some b)] 89) (Hm : HoldsMap eW eT okW w b awE), Calls Tryz.prog 66 #[.pointer (some ⟨mb, 0, none⟩), .agg #[.int .i64 0, .int .i64 0, .int .i64 1, .int .i64 0, .int .i64 1, .int .i64 1], .int .i64 2] w fun e w' => e = .returned (.tuple #[.agg #[.int .i64 0, .int .i64 0, .int .i64 1, .int .i64 1, .int .i64 0, .int .i64 1], .bool true]) ∧ Below w.heap.size w w' := fun w B H => by have := zHa mb b awE awS 2 oS w B H; rw [aw_f5] at this; exact this
 have ca0 : ∀ (w : World) (Bm : Box w mb [.map (some b)] 89) (Hm : HoldsMap eW eT okW w b awE), Calls Tryz.prog 66 #[.pointer (some ⟨mb, 0, none⟩), .agg #[.int .i64 0, .int .i64 0, .int .i64 1, .int .i64 0, .int .i64 1, .int .i64 1], .int .i64 0] w fun e w' => e = .returned (.tuple #[.agg #[.int .i64 0, .int .i64 0, .int .i64 0, .int .i64 0, .int .i64 0, .int .i64 0], .bool false]) ∧ Below w.heap.size w w' := fun w B H => by have := zHa mb b awE awS 0 oS w B H; rw [aw_f6] at this; exact this
 have Fs := Bs.f
 have Ft := Bt.f
 go_wp2_with fail
 refine (ca2 _ (Bm.ee hw) (Hm.ee hw)).mono ?_
 rintro e w31 ⟨rfl, hb⟩
 clear Fs Ft
 replace Bs := Bs.ee hb
 replace Bt := Bt.ee hb
 replace hw := upB hw hb
 clear hb
 skip
 have Fs := Bs.f
 have Ft := Bt.f
 go_wp2_with fail
 clear Fs Ft
 refine zA1 fun W32 hW => ?_
 obtain ⟨bkx, hbx⟩ : ∃ b, w31.heap.size = b := ⟨_, rfl⟩
 rw [hbx]
 have lsx := Bs.lt
 rw [hbx] at lsx
 have ltx := Bt.lt
 rw [hbx] at ltx
 have fx := hw.size
 rw [hbx] at fx
 have Bx : Box W32 bkx [.int .i64 0, .int .i64 0, .int .i64 1, .int .i64 1, .int .i64 0, .int .i64 1] 38 := by rw [hW]; exact Box.new hbx.symm
 replace Bs : Box W32 (w.heap.size) [.int .i64 0, .int .i64 0, .int .i64 1, .int .i64 0, .int .i64 1, .int .i64 1] 38 := by rw [hW]; exact Bs.old _
 replace Bt : Box W32 (w.heap.size + 1) [.int .i64 0, .int .i64 0, .int .i64 1, .int .i64 1, .int .i64 0, .int .i64 1] 38 := by rw [hW]; exact Bt.old _
 replace hw : Below w30.heap.size w30 W32 := by have hl := hw.size; rw [hW]; go_grown
 clear hW hbx
 refine (ca0 _ (Bm.ee hw) (Hm.ee hw)).mono ?_
 rintro e w33 ⟨rfl, hb⟩
 replace Bs := Bs.ee hb
 replace Bt := Bt.ee hb
 replace Bx := Bx.ee hb
 replace hw := upB hw hb
 clear hb
 have Fs := Bs.f
 have Ft := Bt.f
 have Fx := Bx.f
 go_wp2_with fail
 clear Fs Ft Fx
 refine zA1 fun W34 hW => ?_
 obtain ⟨bky, hby⟩ : ∃ b, w33.heap.size = b := ⟨_, rfl⟩
 rw [hby]
 have lsy := Bs.lt
 rw [hby] at lsy
 have lty := Bt.lt
 rw [hby] at lty
 have lxy := Bx.lt
 rw [hby] at lxy
 have fy := hw.size
 rw [hby] at fy
 have By : Box W34 bky [.int .i64 0, .int .i64 0, .int .i64 0, .int .i64 0, .int .i64 0, .int .i64 0] 38 := by rw [hW]; exact Box.new hby.symm
 replace Bs : Box W34 (w.heap.size) [.int .i64 0, .int .i64 0, .int .i64 1, .int .i64 0, .int .i64 1, .int .i64 1] 38 := by rw [hW]; exact Bs.old _
 replace Bt : Box W34 (w.heap.size + 1) [.int .i64 0, .int .i64 0, .int .i64 1, .int .i64 1, .int .i64 0, .int .i64 1] 38 := by rw [hW]; exact Bt.old _
 replace Bx : Box W34 (bkx) [.int .i64 0, .int .i64 0, .int .i64 1, .int .i64 1, .int .i64 0, .int .i64 1] 38 := by rw [hW]; exact Bx.old _
 replace hw : Below w30.heap.size w30 W34 := by have hl := hw.size; rw [hW]; go_grown
 clear hW hby
 clear ca0 ca2
 have cf : ∀ (w : World) (Bm : Box w mb [.map (some b)] 89) (Hm : HoldsMap eW eT okW w b awE), Calls Tryz.prog 39 #[.pointer (some ⟨mb, 0, none⟩), .agg #[.int .i64 0, .int .i64 0], .agg #[.int .i64 1, .int .i64 1]] w fun e w' => e = .returned (.int .i64 0) ∧ w.grownBy w' (some b) ∧ HoldsMap eW eT okW w' b awF := fun w B H => flip_ok mb b awE ⟨0, 0⟩ ⟨1, 1⟩ ⟨oT.1, oT.2.1⟩ awT awS awU awV ⟨0, 1⟩ ⟨1, 0⟩ aw_f7 aw_f8 aw_f9 aw_f10 aw_f11 rfl rfl oT oS oU oV aw_f12 aw_f13 w B H
 refine (cf _ (Bm.ee hw) (Hm.ee hw)).mono ?_
 rintro e w40 ⟨rfl, hg, H40⟩
 replace Bs := Bs.turn (Hm.ee hw) hg
 replace Bt := Bt.turn (Hm.ee hw) hg
 replace Bx := Bx.turn (Hm.ee hw) hg
 replace By := By.turn (Hm.ee hw) hg
 replace hr := (hr.ee hw).turn cT_ne (Hm.ee hw) hg
 replace Bm := (Bm.ee hw).turn (Hm.ee hw) hg
 replace hw0 := upB hw0 hw
 replace hw0 := zBr hw0 hg hw0.size hwb
 clear Hm hg hw cf hwb
 have Hm := H40
 clear H40
 have hw : Below w40.heap.size w40 w40 := Below.refl _ _
 have Fs := Bs.f
 have Ft := Bt.f
 have Fx := Bx.f
 have Fy := By.f
 go_wp2_with fail
 refine (zK3 mb b awF ⟨0, 0⟩ ⟨1, 1⟩ ⟨oT.1, oT.2.1⟩ aw_f14 _ (Bm.ee hw) (Hm.ee hw)).mono ?_
 rintro e w41 ⟨rfl, hb⟩
 clear Fs Ft Fx Fy
 replace Bs := Bs.ee hb
 replace Bt := Bt.ee hb
 replace Bx := Bx.ee hb
 replace By := By.ee hb
 replace hw := upB hw hb
 clear hb
 obtain ⟨ad, A, rfl, eA, hA0⟩ := hr.six (j := 0) (by decide)
 have hA1 : Six w40 A awS := hA0
 clear hA0 hr
 simp only [Nat.zero_mul] at eA
 have Fs := Bs.f
 have Ft := Bt.f
 have Fx := Bx.f
 have Fy := By.f
 go_wp2_with fail
 clear Fs Ft Fx Fy
 refine zA2 fun W42 hW => ?_
 replace hw : Below w40.heap.size w40 W42 := by rw [hW]; exact hw
 replace Bs : Box W42 (w.heap.size) [.int .i64 0, .int .i64 0, .int .i64 1, .int .i64 0, .int .i64 1, .int .i64 1] 38 := by rw [hW]; exact Bs
 replace Bt : Box W42 (w.heap.size + 1) [.int .i64 0, .int .i64 0, .int .i64 1, .int .i64 1, .int .i64 0, .int .i64 1] 38 := by rw [hW]; exact Bt
 replace Bx : Box W42 (bkx) [.int .i64 0, .int .i64 0, .int .i64 1, .int .i64 1, .int .i64 0, .int .i64 1] 38 := by rw [hW]; exact Bx
 replace By : Box W42 (bky) [.int .i64 0, .int .i64 0, .int .i64 0, .int .i64 0, .int .i64 0, .int .i64 0] 38 := by rw [hW]; exact By
 clear hW
 have hA := hA1.ee hw
 obtain ⟨t0, t1, t2, t3, t4, t5⟩ := hA.cells
 have BM : Box W42 mb [.map (some b)] 89 := Bm.ee hw
 have HM : HoldsMap eW eT okW W42 b awF := Hm.ee hw
 have dh : ∀ d os, Calls Tryz.prog 37 #[.pointer (some ⟨mb, 0, none⟩), .agg #[.int .i64 0, .int .i64 0, .int .i64 1, .int .i64 0, .int .i64 1, .int .i64 1]] (grow (redrawn W42 d) os) fun e w' => e = .returned (.bool false) ∧ Below (grow (redrawn W42 d) os).heap.size (grow (redrawn W42 d) os) w' := fun d os => by have := zE4 mb b awF awS oS _ (BM.ext (below_regrown W42 d os) rfl) (HM.ext (below_regrown W42 d os) rfl); first | exact this | (rw [aw_f15] at this; exact this)
 have dl : ∀ d os, Calls Tryz.prog 20 #[.pointer (some ⟨mb, 0, none⟩)] (grow (redrawn W42 d) os) fun e w' => e = .returned (.int .i64 2) ∧ Below (grow (redrawn W42 d) os).heap.size (grow (redrawn W42 d) os) w' := fun d os => by have := mlen_any mb b awF 2 (Lib.hid aw_f16) (by decide) _ (BM.ext (below_regrown W42 d os) rfl) (HM.ext (below_regrown W42 d os) rfl); first | exact this | (rw [aw_f15] at this; exact this)
 have nh : ∀ w, Calls Tryz.prog 37 #[.pointer none, .agg #[.int .i64 0, .int .i64 0, .int .i64 1, .int .i64 0, .int .i64 1, .int .i64 1]] w fun e w' => e = .returned (.bool false) ∧ Below w.heap.size w w' := fun w => nhas awS w
 have nf : ∀ w, Calls Tryz.prog 39 #[.pointer none, .agg #[.int .i64 0, .int .i64 0], .agg #[.int .i64 1, .int .i64 1]] w fun e w' => e = .returned (.int .i64 16) ∧ Below w.heap.size w w' := fun w => nflip ⟨0, 0⟩ ⟨1, 1⟩ w
 have cp := fun w B H => zFl mb b awF (by rw [aw_f16]; decide) w B H
 clear oS oT oZ oU oV hA hA1 Hm Bm
 have gs := Bs.cells
 have gt := Bt.cells
 have gx := Bx.cells
 have gy := By.cells
 try simp only [List.append]
 refine wp_region_once 51 75 [List.range' 0 16, List.range' 16 16, List.range' 32 16, List.range' 48 3] [List.range' 52 16, List.range' 68 7] [75] (by kernel_rfl) (by as_aux_lemma => kernel_rfl) rfl (by decide) (show 75 < 76 by decide) (by as_aux_lemma => kernel_rfl) (by as_aux_lemma => kernel_rfl) (by as_aux_lemma => kernel_rfl) (by as_aux_lemma => kernel_rfl) rfl rfl ⟨(by as_aux_lemma => kernel_rfl), (by as_aux_lemma => kernel_rfl), (by as_aux_lemma => kernel_rfl), (by as_aux_lemma => kernel_rfl), trivial⟩ (by as_aux_lemma => kernel_rfl) ⟨(by as_aux_lemma => kernel_rfl), (by as_aux_lemma => kernel_rfl), trivial⟩ (by as_aux_lemma => kernel_rfl) rfl rfl (by kernel_rfl) (by kernel_rfl) (C := fun w' => ∃ p : Regrown, w' = grow (redrawn W42 p.d) p.os) rgB ?_
 simp only [tK1, tK0, dP1, dP0]
 repeat (first | (refine zA0 (Eq.refl false) ?_; simp only [Act.put, sT2, sT1, sT0]) | (refine rWalk_step (fun K hK => ?_); go_simp; first | (refine hK _ ?_; clear hK K) | (apply Exists.intro; refine ⟨fun _ => ?_, hK _ ?_⟩; (first | with_reducible exact toExtD dh _ _ | with_reducible exact toExtD dl _ _); clear hK K)))
 refine rWalk_nil ⟨rfl, fun w50 hb => ?_⟩
 unfold Oper.wp
 go_simp
 refine (cp _ (BM.ee hb) (HM.ee hb)).mono ?_
 rintro e w51 ⟨M1, a5, cap5, rfl, hr5, hi5, hm5, hb5⟩
 have hM := aw_f18 hi5 hm5
 rw [hM]
 clear hM hi5 hm5 hr5
 dsimp only
 refine ⟨(upB hb hb5), ?_⟩
 clear hb hb5
 try simp only [Act.put, List.setIfInBounds_toArray, List.set_cons_succ, List.set_cons_zero, List.take_succ_cons, List.take_zero, List.drop_succ_cons, List.drop_zero]
 repeat (first | (refine zA0 (Eq.refl false) ?_; simp only [Act.put, sT2, sT1, sT0]) | (refine rWalk_step (fun K hK => ?_); go_simp; first | (refine hK _ ?_; clear hK K) | (apply Exists.intro; refine ⟨fun _ => ?_, hK _ ?_⟩; (first | with_reducible exact toExt (nlen) _ | with_reducible exact toExt nf _ | with_reducible exact toExt nh _); clear hK K)))
 refine rWalk_nil ?_
 intro w60 hb6
 go_wp2
 go_ret
 exact ⟨rfl, hw0.trans (((upB hw hb6)).mono hw0.size)⟩
end Go.Proofs.YtmobnmjjmafibaaGreat
namespace Go.Proofs.YtmobnmjjmafibaaGreat
open Go.RowKit Go.Sort
attribute [local go_sem] rOper rAt rUpon cell_set sg_i64 sg_u64 alloc_cell alloc_frozen
attribute [local go_sem 10000] pt_eql pt_neq tri_eql
attribute [local irreducible] rWalk
attribute [local go_sem ↓ 10000] zEx
theorem two_least {s : Int} (hs : 0 < s) {L : List Tri3} (h : ∀ q, (q = ⟨0, 0⟩ ∨ q = ⟨s, 0⟩ ∨ q = ⟨s, s⟩ ∨ q = ⟨0, s⟩) → someC L q) : 2 ≤ L.length := by
 obtain ⟨T1, m1, c1⟩ := h ⟨0, 0⟩ (.inl rfl)
 obtain ⟨T2, m2, c2⟩ := h ⟨s, 0⟩ (.inr (.inl rfl))
 obtain ⟨T3, m3, c3⟩ := h ⟨s, s⟩ (.inr (.inr (.inl rfl)))
 obtain ⟨T4, m4, c4⟩ := h ⟨0, s⟩ (.inr (.inr (.inr rfl)))
 match L, m1, m2, m3, m4 with
 | [], m1, _, _, _ => cases m1
 | [T], m1, m2, m3, m4 =>
  exfalso
  rw [List.mem_singleton] at m1 m2 m3 m4
  subst m1 m2 m3 m4
  have d : ∀ {a b x y : Int} {P : Pt}, (⟨a, b⟩ : Pt) = P → (⟨x, y⟩ : Pt) = P → a = x ∧ b = y := fun h k => by
   have := h.trans k.symm; simp only [Pt.mk.injEq] at this; exact this
  unfold isCnr at c1 c2 c3 c4
  rcases c1 with c1 | c1 | c1 <;> rcases c2 with c2 | c2 | c2 <;> first | (have := d c1 c2; omega) | skip
  all_goals rcases c3 with c3 | c3 | c3 <;> first | (have := d c1 c3; omega) | (have := d c2 c3; omega) | skip
  all_goals rcases c4 with c4 | c4 | c4 <;> first | (have := d c1 c4; omega) | (have := d c2 c4; omega) | (have := d c3 c4; omega)
 | _ :: _ :: _, _, _, _, _ => simp
end Go.Proofs.YtmobnmjjmafibaaGreat
namespace Go.Proofs.YtmobnmjjmafibaaGreat
open Go.RowKit Go.Sort
attribute [local go_sem] rOper rAt rUpon cell_set sg_i64 sg_u64 alloc_cell alloc_frozen
attribute [local go_sem 10000] pt_eql pt_neq tri_eql
attribute [local irreducible] rWalk
theorem mb_ok {I : List Tri3} {T : Tri3} {a b c : Pt} (h : ∀ T ∈ I, okT T) (hT : T ∈ I) (hc : Cyc T a b c) : okW (a, b) ∧ okW (b, a) ∧ okP c := by
 obtain ⟨k1, k2, k3⟩ := h T hT
 rcases hc with ⟨rfl, rfl, rfl⟩ | ⟨rfl, rfl, rfl⟩ | ⟨rfl, rfl, rfl⟩
 ·exact ⟨⟨k1, k2⟩, ⟨k2, k1⟩, k3⟩
 ·exact ⟨⟨k2, k3⟩, ⟨k3, k2⟩, k1⟩
 ·exact ⟨⟨k3, k1⟩, ⟨k1, k3⟩, k2⟩
theorem zKd {E : Es} {L I : List Tri3} {m : Nat} (g : Good E L) (p : L.Perm I) (h : I.length = m) (hm : m ≤ 100) : E.length ≤ 1000000 := by rw [g.len, p.length_eq, h]; omega
theorem mb_le {I : List Tri3} {m : Nat} (h : I.length = m) (hm : m ≤ 100) : I.length ≤ 1000000 := by omega
theorem mb_16 {s : Int} (h : s ≤ 30) : s < 16777216 := by omega
theorem mb_len2 {E : Es} {L I : List Tri3} {m : Nat} (g : Good E L) (p : L.length = I.length) (h : I.length = m) (hm : m ≤ 100) : E.length ≤ 1000000 := by rw [g.len, p, h]; omega
theorem mb_30 {s : Int} (h : 0 < s) (h2 : s ≤ 30) : s * s ≤ 900 := Int.le_trans (Int.mul_le_mul h2 h2 (by omega) (by omega)) (by decide)
theorem mb_k {k m : Nat} (h : k < m) (hm : m ≤ 100) : wrap64 ((k : Int) + 1) = (k : Int) + 1 := by rw [w64]; omega
theorem zJv {m k : Nat} (h : k < m) : m - (intOf (.int .i64 ((k : Int) + 1))).toNat < m - (intOf (.int .i64 (k : Int))).toNat := by simp [intOf]; omega
theorem zIm : ∀ {L : List Tri3}, (∀ T ∈ L, 0 < det T.A T.B T.C) → 0 ≤ sumA L
 | [], _ => Int.le_refl _
 | T :: L, h => by
  have := h T (by simp)
  have := zIm (L := L) (fun S hS => h S (by simp [hS]))
  unfold sumA; omega
theorem mb_sum {W H s : Int} {L J : List Tri3} (_ : Tiles W H L) (hv : ∀ T ∈ J, valT T = true) (hs : sumA J = 2 * (s * s)) {k : Nat} (hk : k < J.length) (h9 : s * s ≤ 900) :
    sumA (J.take (k + 1)) = sumA (J.take k) + det J[k].A J[k].B J[k].C ∧ wrap64 (sumA (J.take k) + det J[k].A J[k].B J[k].C) = sumA (J.take k) + det J[k].A J[k].B J[k].C := by
 have e : sumA (J.take (k + 1)) = sumA (J.take k) + det J[k].A J[k].B J[k].C := by
  rw [List.take_succ_eq_append_getElem hk, zDx]; simp [sumA]
 have p : ∀ T ∈ J, 0 < det T.A T.B T.C := fun T h => (zDe (hv T h)).2.2.2
 have n1 := zIm (L := J.take (k + 1)) (fun T h => p T (List.mem_of_mem_take h))
 have n2 := zIm (L := J.drop (k + 1)) (fun T h => p T (List.mem_of_mem_drop h))
 have e2 : sumA (J.take (k + 1)) + sumA (J.drop (k + 1)) = 2 * (s * s) := by rw [← zDx, List.take_append_drop, hs]
 refine ⟨e, ?_⟩
 rw [← e, w64]; omega
theorem mb_w1 {s : Int} (h : 0 < s) (h2 : s ≤ 30) : wrap64 (2 * s) = 2 * s := by rw [w64]; omega
theorem mb_w2 {s : Int} (h : 0 < s) (h2 : s ≤ 30) : wrap64 (2 * s * s) = 2 * s * s := by
 have k := mb_30 h h2
 have k0 : 0 ≤ s * s := Int.mul_nonneg (by omega) (by omega)
 rw [Int.mul_assoc, w64]; omega
theorem mb_c {k : Nat} (h : k ≤ 100) : k ≤ 100000 := by omega
theorem mb_pts {E : Es} {L I : List Tri3} (g : Good E L) (h : ∀ p, someC L p ↔ someC I p) (p : Pt) : p ∈ froms E ↔ p ∈ cnrs I := by
 have k : ∀ L : List Tri3, p ∈ cnrs L ↔ someC L p := fun L => by
  unfold cnrs someC isCnr
  simp [List.mem_flatMap]
 rw [g.froms (List.Perm.refl L) p, k, k, h p]
theorem zIv {α : Type} [DecidableEq α] : ∀ {M N : List α}, M.Nodup → (∀ p, p ∈ M → p ∈ N) → M.length ≤ N.length
 | [], _, _, _ => Nat.zero_le _
 | p :: M, N, hn, h => by
  rw [List.nodup_cons] at hn
  have hp := h p (by simp)
  have k := zIv (M := M) (N := N.erase p) hn.2 (fun q hq => (List.mem_erase_of_ne (fun e => hn.1 (by rw [← e]; exact hq))).2 (h q (by simp [hq])))
  rw [List.length_erase_of_mem hp] at k
  have := List.length_pos_of_mem hp
  simp only [List.length_cons]; omega
theorem mb_pl {E : Es} {L I : List Tri3} {m : Nat} {M : List Pt} (g : Good E L) (p : L.length = I.length) (h : I.length = m) (hm : m ≤ 100) (hR : Rising cmpP M) (hs : ∀ p, p ∈ M → p ∈ froms E) : M.length ≤ 1000000 := by
 have nd : M.Nodup := hR.imp fun {a b} hab e => by
  subst e
  have h0 := wholeP.eq0.2 (rfl : a = a)
  omega
 have := zIv nd hs
 have e : (froms E).length = E.length := by unfold froms; simp
 rw [e, g.len, p, h] at this
 omega
theorem mb_i {k : Nat} (h : k < 3) : IntKind.i64.wrap ((k : Int) + 1) = (k : Int) + 1 := by rw [IntKind.wrap_i64]; omega
theorem mb_w {k : Nat} (h : k < 3) : wrap64 ((k : Int) + 2) = (k : Int) + 2 := by rw [w64]; omega
theorem cyc_crn (T : Tri3) (k : Nat) (h : k < 3) : Cyc T (crn T (k : Int)) (crn T ((k : Int) + 1)) (crn T ((k : Int) + 2)) := by
 have h' : k = 0 ∨ k = 1 ∨ k = 2 := by omega
 rcases h' with rfl | rfl | rfl
 ·exact .inl ⟨rfl, rfl, rfl⟩
 ·exact .inr (.inl ⟨rfl, rfl, rfl⟩)
 ·exact .inr (.inr ⟨rfl, rfl, rfl⟩)
theorem mb_no (s : Int) (a0 : Option Addr) (n c0 : Nat) (at' kn : Int) (hf : s < 1 ∨ 30 < s ∨ 15 < n) (w : World) :
    Calls Tryz.prog 8 #[.int .i64 s, .slice a0 n c0, .int .i64 at', .int .i64 kn] w fun e w' => e = .returned (.bool true) ∧ Below w.heap.size w w' := by
 have en : decide ((15 : Int) < (n : Int)) = decide (15 < n) := by simp; omega
 cases h1 : decide (s < 1) <;> cases h2 : decide ((30 : Int) < s) <;> cases h3 : decide ((15 : Int) < (n : Int))
 case false.false.false => rw [en] at h3; simp at h1 h2 h3; omega
 all_goals
  clear hf en
  go_enter Tryz.func8, Tryz.ntmps8
  go_wp2_with fail
  refine (zEv _).mono ?_
  rintro e w2 ⟨rfl, hb2⟩
  go_wp2
  go_ret
  exact ⟨rfl, hb2⟩
theorem mb_yes (s : Int) (hs : 0 < s) (hs2 : s ≤ 30) (a0 : Option Addr) (n c0 : Nat) (hn : n ≤ 15) (P : List Int) (hP : Hid (P.length = n)) (at' kn : Int) (w : World) (h0 : RowAt cI 1 w a0 P) :
    Calls Tryz.prog 8 #[.int .i64 s, .slice a0 n c0, .int .i64 at', .int .i64 kn] w fun e w' => e = .returned (.bool true) ∧ Below w.heap.size w w' := by
 have cn := rnewcdt_any s s hs hs (by omega) (by omega)
 have csp := fun x => spot_any s x hs (by omega)
 have HS := Lib.hid hs
 have HS2 := Lib.hid hs2
 have HN := Lib.hid hn
 have hsb : (s < 1) = False := by simp; omega
 have hsb2 : (30 < s) = False := by simp; omega
 have hnb : ((15 : Int) < (n : Int)) = False := by simp; omega
 go_enter Tryz.func8, Tryz.ntmps8
 go_wp2_with fail
 refine (cn _).mono ?_
 rintro e w1 ⟨cb, mb, b, db, v, E, L, D, rfl, S, hI, hL, hC, hD, hw, hb1, hb2, hb3, hb4⟩
 have hC' := Lib.hid (show ∀ q, someC L q ↔ PutPt s [] q from fun q => by rw [hC q]; simp [PutPt])
 have hI' := Lib.hid hI
 have hL' := Lib.hid (show L.length ≤ 2 + 2 * 0 by omega)
 have hD' := Lib.hid (show D.length ≤ 4 + 2 * 0 by rw [hD.length_eq]; simp)
 replace hb1 := Lib.hid hb1
 replace hb2 := Lib.hid hb2
 clear cn hI hL hC hD hsb hsb2 hnb hs hs2 hn
 go_wp2_with fail
 go_loopw [10] (fun vi wr => ∃ (k : Nat) (v : Value) (E : Es) (L : List Tri3) (D : List Wl), vi = .int .i64 k ∧ k ≤ n ∧ CdtAt wr cb mb b db v s s E D ∧ Hid (CInv s s E L D) ∧ Hid (∀ q, someC L q ↔ PutPt s (P.take k) q) ∧ Hid (L.length ≤ 2 + 2 * k) ∧ Hid (D.length ≤ 4 + 2 * k) ∧ Below w.heap.size w wr) (fun vi _ => n - (intOf vi).toNat)
 case atStart => exact ⟨0, v, E, L, D, rfl, Nat.zero_le _, S, hI', by simpa using hC', hL', hD', hw⟩
 case round =>
  clear S hI' hC' hL' hD' hw
  obtain ⟨k, v, E, L, D, rfl, hk, S, hI, hC, hL, hD, hw⟩ := hrel
  by_cases hlt : k < n
  case pos =>
   have hlk : k < P.length := hP.out ▸ hlt
   have HQ := Lib.hid (show P.take (k + 1) = P.take k ++ [P[k]] from List.take_succ_eq_append_getElem hlk)
   obtain ⟨ad, ea, hab0, hA0⟩ := h0.num hlk
   have hA := (h0.ee hw).num hlk
   obtain ⟨ad2, ea2, hab, hA⟩ := hA
   obtain rfl : ad = ad2 := by rw [ea] at ea2; exact Option.some.inj ea2
   clear hA0 ea2
   generalize P[k] = x at *
   go_wp2_with fail
   refine (csp x _).mono ?_
   rintro e w3 ⟨rfl, hb⟩
   replace S := S.ee hb
   replace hw := upB hw hb
   clear hb hA
   go_wp2_with fail
   have hNn := HN.out
   have hSs := HS.out
   have hSs2 := HS2.out
   have hLk : L.length ≤ 2 + 2 * k := hL.out
   have hDk : D.length ≤ 4 + 2 * k := hD.out
   refine (rcadd_any cb mb b db v s s hSs hSs (by omega) (by omega) E L D hI.out (by omega) (by omega) (spt s x) _ S).mono ?_
   rintro e w4 ⟨r, v', E', L', D', rfl, S', hI2, hr, hC2, hL2, hD2, hf⟩
   have hw4 : Below w.heap.size w w4 := hw.trans (hf.below (fun j hj => by have := hb1.out; have := hb2.out; rcases hj with rfl | rfl <;> omega) hw.size)
   have hC3 := Lib.hid (show ∀ q, someC L' q ↔ PutPt s (P.take (k + 1)) q from fun q => by
    rw [hC2 q, hC.out q, HQ.out]
    have hin : inBox s s (spt s x) := zJp hSs x
    unfold PutPt
    constructor
    ·rintro ((h | ⟨y, h1, h2⟩) | ⟨h, _⟩)
     ·exact .inl h
     ·exact .inr ⟨y, List.mem_append_left _ h1, h2⟩
     ·exact .inr ⟨x, by simp, h⟩
    ·rintro (h | ⟨y, h1, h2⟩)
     ·exact .inl (.inl h)
     ·rcases List.mem_append.1 h1 with h1 | h1
      ·exact .inl (.inr ⟨y, h1, h2⟩)
      ·rw [List.mem_singleton] at h1
       rw [h1] at h2
       exact .inr ⟨h2, hin⟩)
   have hL3 := Lib.hid (show L'.length ≤ 2 + 2 * (k + 1) by omega)
   have hD3 := Lib.hid (show D'.length ≤ 4 + 2 * (k + 1) by omega)
   have hI3 := Lib.hid hI2
   clear hC2 hL2 hD2 hf hr hLk hDk hI2 S hw hSs hSs2
   go_wp2_with fail
   rw [← ea]
   go_roundw
   case rel => exact ⟨k + 1, v', E', L', D', by go_num, by omega, S', hI3, hC3, hL3, hD3, hw4⟩
   case measure => simp [intOf]; omega
  case neg =>
   obtain rfl : k = n := by omega
   have HC := Lib.hid (show ∀ q, someC L q ↔ PutPt s P q from fun q => by rw [hC.out q, List.take_of_length_le (by rw [hP.out]; omega)])
   clear hC hlt hk
   have hG := hI.out.good
   have hLk := hL.out
   have hNn := HN.out
   have hE : E.length ≤ 1000000 := by rw [hG.len]; omega
   have ht := fun W B H => rtris_cap mb b E hE W B H
   have hp0 : (srt cmpT (heads (fun _ => true) E)).Perm L := (zAp _).trans hG.heads
   have HRS := Lib.hid (show srt cmpT (srt cmpT (heads (fun _ => true) E)) = srt cmpT (heads (fun _ => true) E) from wholeT.srt_of_perm (zAp _))
   generalize srt cmpT (heads (fun _ => true) E) = I at *
   obtain ⟨m, hm⟩ : ∃ m, I.length = m := ⟨_, rfl⟩
   rw [hm] at ht
   have HM := Lib.hid hm
   have hm1 : m ≤ 1000000 := by rw [← hm, hp0.length_eq]; omega
   have HM1 := Lib.hid (show m ≤ 100 by rw [← hm, hp0.length_eq]; omega)
   have hv : ∀ T ∈ I, valT T = true := fun T h => hG.val T (hp0.mem_iff.1 h)
   have hgo := Good.puts (I := I) (E := []) (M := []) ⟨by simp, by simp [KeysNodup], by simp⟩ hv (by
    rw [List.append_nil]
    exact ((hp0.flatMap_right ways).nodup_iff).2 hG.once)
   rw [List.append_nil, hm] at hgo
   obtain ⟨hg1, hg2⟩ := hgo
   have HG := Lib.hid (show Good (putRun [] I).2 I from hg2)
   have HV := Lib.hid hv
   have HP0 := Lib.hid hp0
   have hn2 := fun a cap W H => mnew_1 a cap m I (Lib.hid hm) hm1 (fun T h => zBx (hv T h)) hg1 W H
   generalize (putRun [] I).2 = E2 at *
   clear hg1 hg2 hv hp0 hm1 hE hG hLk hm hNn
   obtain ⟨xs, ys, zs, vs⟩ := S.box.f
   go_wp2_with fail
   clear xs ys zs vs
   refine (ht _ S.mesh S.map).mono ?_
   rintro e w5 ⟨a5, c5, rfl, hc5', hr5, hb⟩
   replace S := S.ee hb
   have hw5 := (upB hw hb)
   clear hb ht hw
   go_wp2_with fail
   refine (hn2 _ _ _ hr5).mono ?_
   rintro e w6 ⟨m2, b2, rfl, B2, H2, h1, h2, hb⟩
   have S6 := S.ee hb
   have hr6 := hr5.ee hb
   have hw6 := (upB hw5 hb)
   have HT := Lib.hid hI.out.fix.tiles
   have HB2 := Lib.hid (show w.heap.size ≤ b2 from Nat.le_trans hw5.size h1)
   clear hb hn2 hr5 h1 h2 hw5 S
   have hNl : 2 ≤ I.length := by
    rw [HP0.out.length_eq]
    exact two_least HS.out (fun q h => (HC.out q).2 (.inl h))
   rw [HM.out] at hNl
   have hml := HM1.out
   obtain ⟨kk, ek, lk⟩ : ∃ i : Nat, at' % m = i ∧ i < m := ⟨(at' % m).toNat, by have := Int.emod_nonneg at' (b := (m : Int)) (by omega); omega, by have := Int.emod_lt_of_pos at' (b := (m : Int)) (by omega); have := Int.emod_nonneg at' (b := (m : Int)) (by omega); omega⟩
   have cr := fun W => zIp (i := at') (n := m) (by omega) (by omega) W
   rw [ek] at cr
   have cr3 := fun W => zIp (i := kn) (n := 3) (by omega) (by omega) W
   obtain ⟨k3, e3, l3⟩ : ∃ i : Nat, kn % 3 = i ∧ i < 3 := ⟨(kn % 3).toNat, by omega, by omega⟩
   rw [e3] at cr3
   have hk1 : kk < I.length := by rw [HM.out]; exact lk
   have HT1 := Lib.hid (List.getElem_mem hk1)
   obtain ⟨ad, A, ea, eA, hA⟩ := hr6.six hk1
   have HOKI := Lib.hid (show ∀ T ∈ I, okT T from fun T h => zBx (HV.out T h))
   generalize I[kk] = T at *
   subst ea
   have HK := Lib.hid (show kk < m from lk)
   have q1 : (kk : Int) < (m : Int) := Int.ofNat_lt.2 lk
   have q2 : (0 : Int) ≤ (kk : Int) := Int.natCast_nonneg kk
   clear hk1 ek e3 csp S6
   have hcy := cyc_crn T k3 l3
   have kc0 := fun W => zAj T (k3 : Int) W
   have kc1 := fun W => zAj T ((k3 : Int) + 1) W
   have kc2 := fun W => zAj T ((k3 : Int) + 2) W
   generalize crn T (k3 : Int) = a at *
   generalize crn T ((k3 : Int) + 1) = b at *
   generalize crn T ((k3 : Int) + 2) = c at *
   have HCY := Lib.hid hcy
   have i1 : IntKind.i64.wrap ((k3 : Int) + 1) = (k3 : Int) + 1 := mb_i l3
   have wk2 : wrap64 ((k3 : Int) + 2) = (k3 : Int) + 2 := mb_w l3
   have BN := B2
   have HM2 := Lib.hid H2
   have HR6 := Lib.hid hr6
   have HA := Lib.hid hA
   have hw := Below.refl w6.heap.size w6
   have HW6 := Lib.hid hw6
   clear B2 hw6 hcy H2 hr6 hA hc5' hml hNl lk l3
   go_wp2_with fail
   refine (cr _).mono ?_
   rintro e w21 ⟨rfl, hb⟩
   replace BN := BN.ee hb
   replace hw := upB hw hb
   clear hb
   obtain ⟨t6, t0, t1, t2, t3, t4, t5⟩ := (HA.out.ee hw).f
   obtain ⟨xN, yN, zN, vN⟩ := BN.f
   go_wp2_with fail
   clear t6 t0 t1 t2 t3 t4 t5
   clear xN yN zN vN
   refine zA1 fun W22 hW => ?_
   obtain ⟨bkT, hbT⟩ : ∃ b, w21.heap.size = b := ⟨_, rfl⟩
   rw [hbT]
   have lNT := BN.lt
   rw [hbT] at lNT
   have fT := hw.size
   rw [hbT] at fT
   have BT : Box W22 bkT [.int .i64 T.A.x, .int .i64 T.A.y, .int .i64 T.B.x, .int .i64 T.B.y, .int .i64 T.C.x, .int .i64 T.C.y] 38 := by rw [hW]; exact Box.new hbT.symm
   replace BN : Box W22 (m2) [.map (some b2)] 89 := by rw [hW]; exact BN.old _
   replace hw : Below w6.heap.size w6 W22 := by have hl := hw.size; rw [hW]; go_grown
   clear hW hbT
   refine (cr3 _).mono ?_
   rintro e w23 ⟨rfl, hb⟩
   replace BN := BN.ee hb
   replace BT := BT.ee hb
   replace hw := upB hw hb
   clear hb
   obtain ⟨xN, yN, zN, vN⟩ := BN.f
   obtain ⟨xT, yT, zT, vT⟩ := BT.f
   go_wp2_with fail
   clear xN yN zN vN xT yT zT vT
   have d0 : ∀ d os, Calls Tryz.prog 23 #[.agg #[.int .i64 T.A.x, .int .i64 T.A.y, .int .i64 T.B.x, .int .i64 T.B.y, .int .i64 T.C.x, .int .i64 T.C.y], .int .i64 (k3 : Int)] (grow (redrawn w23 d) os) fun e w' => e = .returned (.agg #[.int .i64 a.x, .int .i64 a.y]) ∧ Below (grow (redrawn w23 d) os).heap.size (grow (redrawn w23 d) os) w' := fun d os => kc0 _
   have d1 : ∀ d os, Calls Tryz.prog 23 #[.agg #[.int .i64 T.A.x, .int .i64 T.A.y, .int .i64 T.B.x, .int .i64 T.B.y, .int .i64 T.C.x, .int .i64 T.C.y], .int .i64 ((k3 : Int) + 1)] (grow (redrawn w23 d) os) fun e w' => e = .returned (.agg #[.int .i64 b.x, .int .i64 b.y]) ∧ Below (grow (redrawn w23 d) os).heap.size (grow (redrawn w23 d) os) w' := fun d os => kc1 _
   obtain ⟨xN, yN, zN, vN⟩ := BN.f
   obtain ⟨xT, yT, zT, vT⟩ := BT.f
   have gN := BN.cells
   have gT := BT.cells
   refine zBb 9 [⟨7, 15, 30, [.int .i64 0, .int .i64 0]⟩, ⟨8, 16, 30, [.int .i64 0, .int .i64 0]⟩] ?_ (by kernel_rfl) (by decide) (by decide) (by kernel_rfl) (by decide) (C := fun w' => ∃ p : Regrown, w' = grow (redrawn w23 p.d) p.os) rgB ?_
   ·simp only [List.forall_mem_cons]
    refine ⟨⟨_, rfl, rfl, rfl, rfl, fun ρ W => by simp [execOp, go_sem]⟩, ⟨_, rfl, rfl, rfl, rfl, fun ρ W => by simp [execOp, go_sem]⟩, fun _ h => (by cases h)⟩
   simp only [List.take_succ_cons, List.take_zero, List.map_cons, List.map_nil, dropIdx, List.contains_cons, List.contains_nil, Nat.reduceBEq, Nat.reduceAdd, Bool.or_false, Bool.or_true, Bool.or_self, Bool.false_eq_true, if_true, if_false]
   repeat (first | (refine zA0 (Eq.refl false) ?_; simp only [Act.put, sT2, sT1, sT0]) | (refine rWalk_step (fun K hK => ?_); go_simp; first | (refine hK _ ?_; clear hK K) | (apply Exists.intro; refine ⟨fun _ => ?_, hK _ ?_⟩; (first | with_reducible exact toExtD d0 _ _ | with_reducible exact toExtD d1 _ _); clear hK K)))
   refine rWalk_nil ?_
   intro w24 β hL
   simp only [putD, List.drop_succ_cons, List.drop_zero]
   have qA := hL.box ⟨7, 15, 30, [.int .i64 0, .int .i64 0]⟩ (by simp) (by simp)
   simp only at qA
   have qB := hL.box ⟨8, 16, 30, [.int .i64 0, .int .i64 0]⟩ (by simp) (by simp)
   simp only at qB
   have nAB := hL.apart 15 (by simp) 16 (by simp) (by decide)
   have nBA := hL.apart 16 (by simp) 15 (by simp) (by decide)
   have hb := hL.below
   have lN := BN.lt
   have lT := BT.lt
   clear gN gT
   clear xN yN zN vN xT yT zT vT
   replace BN := BN.ee hb
   replace BT := BT.ee hb
   have hw0 := hw.size
   replace hw := upB hw hb
   clear hb hL
   generalize β 15 = bkA at *
   generalize β 16 = bkB at *
   clear β
   obtain ⟨fA, BA⟩ := qA
   obtain ⟨fB, BB⟩ := qB
   simp only [Act.put]
   obtain ⟨xA, yA, zA, vA⟩ := BA.f
   obtain ⟨xB, yB, zB, vB⟩ := BB.f
   go_wp2_with fail
   refine zA1 fun W25 hW => ?_
   have CN : Box W25 (m2) [.map (some b2)] 89 := by rw [hW]; exact ((((BN.sn bkA 0 (.int .i64 a.x) (by first | assumption | omega)).sn bkA 1 (.int .i64 a.y) (by first | assumption | omega)).sn bkB 0 (.int .i64 b.x) (by first | assumption | omega)).sn bkB 1 (.int .i64 b.y) (by first | assumption | omega))
   have CT : Box W25 (bkT) [.int .i64 T.A.x, .int .i64 T.A.y, .int .i64 T.B.x, .int .i64 T.B.y, .int .i64 T.C.x, .int .i64 T.C.y] 38 := by rw [hW]; exact ((((BT.sn bkA 0 (.int .i64 a.x) (by first | assumption | omega)).sn bkA 1 (.int .i64 a.y) (by first | assumption | omega)).sn bkB 0 (.int .i64 b.x) (by first | assumption | omega)).sn bkB 1 (.int .i64 b.y) (by first | assumption | omega))
   have CA : Box W25 (bkA) [.int .i64 a.x, .int .i64 a.y] 30 := by rw [hW]; exact ((((BA.set 0 (.int .i64 a.x)).set 1 (.int .i64 a.y)).sn bkB 0 (.int .i64 b.x) (by first | assumption | omega)).sn bkB 1 (.int .i64 b.y) (by first | assumption | omega))
   have CB : Box W25 (bkB) [.int .i64 b.x, .int .i64 b.y] 30 := by rw [hW]; exact ((((BB.sn bkA 0 (.int .i64 a.x) (by first | assumption | omega)).sn bkA 1 (.int .i64 a.y) (by first | assumption | omega)).set 0 (.int .i64 b.x)).set 1 (.int .i64 b.y))
   replace hw : Below w6.heap.size w6 W25 := by have hl := hw.size; rw [hW]; go_grown
   clear xA yA zA vA xB yB zB vB
   clear hW BN BT BA BB
   have BN := CN
   have BT := CT
   have BA := CA
   have BB := CB
   clear CN CT CA CB
   have cl := fun W B H => zJ0 m2 b2 E2 b a (mb_ok HOKI.out HT1.out HCY.out).2.1 W B H
   obtain ⟨⟨S, ok⟩, hS⟩ : ∃ x, lftE E2 b a = x := ⟨_, rfl⟩
   have HS1 := Lib.hid hS
   rw [hS] at cl
   dsimp only at cl
   clear hS
   obtain ⟨xN, yN, zN, vN⟩ := BN.f
   obtain ⟨xT, yT, zT, vT⟩ := BT.f
   obtain ⟨xA, yA, zA, vA⟩ := BA.f
   obtain ⟨xB, yB, zB, vB⟩ := BB.f
   go_wp2_with fail
   clear xN yN zN vN xT yT zT vT xA yA zA vA xB yB zB vB
   refine (cl _ BN (HM2.out.ee hw)).mono ?_
   rintro e w26 ⟨rfl, hb⟩
   replace BN := BN.ee hb
   replace BT := BT.ee hb
   replace BA := BA.ee hb
   replace BB := BB.ee hb
   replace hw := upB hw hb
   clear hb
   obtain ⟨xN, yN, zN, vN⟩ := BN.f
   obtain ⟨xT, yT, zT, vT⟩ := BT.f
   obtain ⟨xA, yA, zA, vA⟩ := BA.f
   obtain ⟨xB, yB, zB, vB⟩ := BB.f
   go_wp2_with fail
   clear xN yN zN vN xT yT zT vT xA yA zA vA xB yB zB vB
   refine zA1 fun W27 hW => ?_
   obtain ⟨bkS, hbS⟩ : ∃ b, w26.heap.size = b := ⟨_, rfl⟩
   rw [hbS]
   have lNS := BN.lt
   rw [hbS] at lNS
   have lTS := BT.lt
   rw [hbS] at lTS
   have lAS := BA.lt
   rw [hbS] at lAS
   have lBS := BB.lt
   rw [hbS] at lBS
   have fS := hw.size
   rw [hbS] at fS
   have BS : Box W27 bkS [.int .i64 S.A.x, .int .i64 S.A.y, .int .i64 S.B.x, .int .i64 S.B.y, .int .i64 S.C.x, .int .i64 S.C.y] 38 := by rw [hW]; exact Box.new hbS.symm
   replace BN : Box W27 (m2) [.map (some b2)] 89 := by rw [hW]; exact BN.old _
   replace BT : Box W27 (bkT) [.int .i64 T.A.x, .int .i64 T.A.y, .int .i64 T.B.x, .int .i64 T.B.y, .int .i64 T.C.x, .int .i64 T.C.y] 38 := by rw [hW]; exact BT.old _
   replace BA : Box W27 (bkA) [.int .i64 a.x, .int .i64 a.y] 30 := by rw [hW]; exact BA.old _
   replace BB : Box W27 (bkB) [.int .i64 b.x, .int .i64 b.y] 30 := by rw [hW]; exact BB.old _
   replace hw : Below w6.heap.size w6 W27 := by have hl := hw.size; rw [hW]; go_grown
   clear hW hbS
   clear cl cr cr3 kc0 kc1 d0 d1
   have HH := HM2.out.ee hw
   have HR := HR6.out.ee hw
   refine (zHv m2 b2 E2 I HG.out a b (mb_ok HOKI.out HT1.out HCY.out).1 W27 BN HH).mono ?_
   rintro e wf ⟨r, E3, L3, rfl, hg, H3, G3, F3⟩
   replace BN := BN.turn HH hg
   replace BT := BT.turn HH hg
   replace BA := BA.turn HH hg
   replace BB := BB.turn HH hg
   replace BS := BS.turn HH hg
   replace HR := HR.turn cT_ne HH hg
   replace HW6 := Lib.hid (zBr (HW6.out.trans (hw.mono HW6.out.size)) hg (HW6.out.trans (hw.mono HW6.out.size)).size HB2.out)
   clear HH hg hw
   have hF := mb_first HG.out HT1.out HCY.out F3
   rw [HS1.out] at hF
   dsimp only at hF
   clear F3
   rcases hF with ⟨rfl, rfl, p3⟩ | ⟨rfl, rfl, p3⟩ | ⟨S2, e2, hS2, wS2, hm, R3⟩
   ·have hE3 : E3.length ≤ 1000000 := zKd G3 p3 HM.out HM1.out
    have ct := fun W B H => zDk m2 b2 E3 hE3 W B H
    rw [show srt cmpT (heads (fun _ => true) E3) = I from (wholeT.srt_of_perm (G3.heads.trans p3)).trans HRS.out, HM.out] at ct
    obtain ⟨xN, yN, zN, vN⟩ := BN.f
    obtain ⟨xT, yT, zT, vT⟩ := BT.f
    obtain ⟨xA, yA, zA, vA⟩ := BA.f
    obtain ⟨xB, yB, zB, vB⟩ := BB.f
    obtain ⟨xS, yS, zS, vS⟩ := BS.f
    go_wp2_with fail
    clear xN yN zN vN xT yT zT vT xA yA zA vA xB yB zB vB xS yS zS vS
    refine (ct _ BN H3).mono ?_
    rintro e wg ⟨aT, cT', rfl, hrT, hb⟩
    have hw := HW6.out.trans (hb.mono HW6.out.size)
    have ca := zJi aT (some ad) cT' c5 I I wg hrT (HR.ee hb) (mb_le HM.out HM1.out)
    rw [decide_eq_true rfl, HM.out] at ca
    go_wp2_with fail
    refine ca.mono ?_
    rintro e wh ⟨rfl, hb2⟩
    replace hw := upB hw hb2
    go_wp2_with fail
    refine (zEv _).mono ?_
    rintro e wi ⟨rfl, hb3⟩
    replace hw := upB hw hb3
    go_wp2
    go_ret
    exact ⟨rfl, hw⟩
   ·have hE3 : E3.length ≤ 1000000 := zKd G3 p3 HM.out HM1.out
    have ct := fun W B H => zDk m2 b2 E3 hE3 W B H
    rw [show srt cmpT (heads (fun _ => true) E3) = I from (wholeT.srt_of_perm (G3.heads.trans p3)).trans HRS.out, HM.out] at ct
    obtain ⟨xN, yN, zN, vN⟩ := BN.f
    obtain ⟨xT, yT, zT, vT⟩ := BT.f
    obtain ⟨xA, yA, zA, vA⟩ := BA.f
    obtain ⟨xB, yB, zB, vB⟩ := BB.f
    obtain ⟨xS, yS, zS, vS⟩ := BS.f
    go_wp2_with fail
    clear xN yN zN vN xT yT zT vT xA yA zA vA xB yB zB vB xS yS zS vS
    refine (ct _ BN H3).mono ?_
    rintro e wg ⟨aT, cT', rfl, hrT, hb⟩
    have hw := HW6.out.trans (hb.mono HW6.out.size)
    have ca := zJi aT (some ad) cT' c5 I I wg hrT (HR.ee hb) (mb_le HM.out HM1.out)
    rw [decide_eq_true rfl, HM.out] at ca
    go_wp2_with fail
    refine ca.mono ?_
    rintro e wh ⟨rfl, hb2⟩
    replace hw := upB hw hb2
    go_wp2_with fail
    refine (zEv _).mono ?_
    rintro e wi ⟨rfl, hb3⟩
    replace hw := upB hw hb3
    go_wp2
    go_ret
    exact ⟨rfl, hw⟩
   ·obtain ⟨rfl, rfl⟩ : S = S2 ∧ ok = true := by simpa using e2
    clear e2
    have tI := HT.out.perm HP0.out.symm
    obtain ⟨eT, d, cS, eS, n1, n2, n3⟩ := mb_apx tI HT1.out hS2 HCY.out wS2
    rw [eT, eS] at hm R3
    obtain ⟨rfl, t3, len3, cor3, has3, back3⟩ := mb_flip HG.out tI (mb_16 HS2.out) (mb_16 HS2.out) HT1.out hS2 HCY.out cS hm G3 R3
    have HT3 := Lib.hid t3
    have HL3 := Lib.hid len3
    have HC3 := Lib.hid cor3
    have HH3 := Lib.hid has3
    have HB3 := Lib.hid back3
    have HG3 := Lib.hid G3
    have hS3 := Lib.hid hS2
    clear t3 len3 cor3 has3 back3 G3 hm R3 eT eS tI hS2 wS2
    have e1 : peqI b.x b.y a.x a.y = false := zBd.2 n1
    have e2 : peqI a.x a.y b.x b.y = false := zBd.2 (Ne.symm n1)
    have e3 : peqI d.x d.y a.x a.y = false := zBd.2 (Ne.symm n2)
    have e4 : peqI d.x d.y b.x b.y = false := zBd.2 n3
    have e5 : peqI a.x a.y a.x a.y = true := zBf.2 rfl
    have e6 : peqI b.x b.y b.x b.y = true := zBf.2 rfl
    clear n1 n2 n3
    have hw := Below.refl wf.heap.size wf
    have HN9 := Lib.hid BN
    have HT9 := Lib.hid BT
    have HA9 := Lib.hid BA
    have HB9 := Lib.hid BB
    have HS9 := Lib.hid BS
    have HR9 := Lib.hid HR
    have HM9 := Lib.hid H3
    clear HR H3
    obtain ⟨xN, yN, zN, vN⟩ := BN.f
    obtain ⟨xT, yT, zT, vT⟩ := BT.f
    obtain ⟨xA, yA, zA, vA⟩ := BA.f
    obtain ⟨xB, yB, zB, vB⟩ := BB.f
    obtain ⟨xS, yS, zS, vS⟩ := BS.f
    go_wp2_with fail
    clear xN yN zN vN xT yT zT vT xA yA zA vA xB yB zB vB xS yS zS vS
    refine (kc2 _).mono ?_
    rintro e w28 ⟨rfl, hb⟩
    replace BN := BN.ee hb
    replace BT := BT.ee hb
    replace BA := BA.ee hb
    replace BB := BB.ee hb
    replace BS := BS.ee hb
    replace hw := upB hw hb
    clear hb
    obtain ⟨xN, yN, zN, vN⟩ := BN.f
    obtain ⟨xT, yT, zT, vT⟩ := BT.f
    obtain ⟨xA, yA, zA, vA⟩ := BA.f
    obtain ⟨xB, yB, zB, vB⟩ := BB.f
    obtain ⟨xS, yS, zS, vS⟩ := BS.f
    go_upto_block 2 with fail
    clear xN yN zN vN xT yT zT vT xA yA zA vA xB yB zB vB xS yS zS vS
    refine zA2 fun W29 hW => ?_
    obtain ⟨bkP, hbP⟩ : ∃ b, w28.heap.size = b := ⟨_, rfl⟩
    rw [hbP]
    have lNP := BN.lt
    rw [hbP] at lNP
    have lTP := BT.lt
    rw [hbP] at lTP
    have lAP := BA.lt
    rw [hbP] at lAP
    have lBP := BB.lt
    rw [hbP] at lBP
    have lSP := BS.lt
    rw [hbP] at lSP
    have fP := hw.size
    rw [hbP] at fP
    have BP : Box W29 (bkP) [.int .i64 c.x, .int .i64 c.y] 30 := by rw [hW, ← hbP]; exact (Box.new rfl).old _
    have BQ : Box W29 (bkP + 1) [.int .i64 0, .int .i64 0] 30 := by rw [hW, ← hbP]; exact Box.new (by simp)
    replace BN : Box W29 (m2) [.map (some b2)] 89 := by rw [hW]; exact ((BN).old _).old _
    replace BT : Box W29 (bkT) [.int .i64 T.A.x, .int .i64 T.A.y, .int .i64 T.B.x, .int .i64 T.B.y, .int .i64 T.C.x, .int .i64 T.C.y] 38 := by rw [hW]; exact ((BT).old _).old _
    replace BA : Box W29 (bkA) [.int .i64 a.x, .int .i64 a.y] 30 := by rw [hW]; exact ((BA).old _).old _
    replace BB : Box W29 (bkB) [.int .i64 b.x, .int .i64 b.y] 30 := by rw [hW]; exact ((BB).old _).old _
    replace BS : Box W29 (bkS) [.int .i64 S.A.x, .int .i64 S.A.y, .int .i64 S.B.x, .int .i64 S.B.y, .int .i64 S.C.x, .int .i64 S.C.y] 38 := by rw [hW]; exact ((BS).old _).old _
    replace hw : Below wf.heap.size wf W29 := by have hl := hw.size; rw [hW]; go_grown
    clear hW hbP
    clear BN
    clear BT
    clear BA
    clear BB
    clear BS
    have ks0 : ∀ w, Calls Tryz.prog 23 #[.agg #[.int .i64 S.A.x, .int .i64 S.A.y, .int .i64 S.B.x, .int .i64 S.B.y, .int .i64 S.C.x, .int .i64 S.C.y], .int .i64 0] w fun e w' => e = .returned (.agg #[.int .i64 S.A.x, .int .i64 S.A.y]) ∧ Below w.heap.size w w' := zAj S 0
    have ks1 : ∀ w, Calls Tryz.prog 23 #[.agg #[.int .i64 S.A.x, .int .i64 S.A.y, .int .i64 S.B.x, .int .i64 S.B.y, .int .i64 S.C.x, .int .i64 S.C.y], .int .i64 1] w fun e w' => e = .returned (.agg #[.int .i64 S.B.x, .int .i64 S.B.y]) ∧ Below w.heap.size w w' := zAj S 1
    have ks2 : ∀ w, Calls Tryz.prog 23 #[.agg #[.int .i64 S.A.x, .int .i64 S.A.y, .int .i64 S.B.x, .int .i64 S.B.y, .int .i64 S.C.x, .int .i64 S.C.y], .int .i64 2] w fun e w' => e = .returned (.agg #[.int .i64 S.C.x, .int .i64 S.C.y]) ∧ Below w.heap.size w w' := zAj S 2
    go_cut [] from 128 (fun wx => Below wf.heap.size wf wx ∧ Box wx bkP [.int .i64 c.x, .int .i64 c.y] 30 ∧ Box wx (bkP + 1) [.int .i64 d.x, .int .i64 d.y] 30)
    case first =>
     have cS0 := cS
     clear HT3 HL3 HC3 HH3 HB3 HG3 hS3 HM9 HR9 HN9 HT9 wk2 kc2
     rcases cS0 with ⟨rfl, rfl, rfl⟩ | ⟨rfl, rfl, rfl⟩ | ⟨rfl, rfl, rfl⟩
     ·as_aux_lemma =>
           go_wp2_with fail
           refine wp_loop_rounds 4 ?_
           try rw [rounds_succ]
           obtain ⟨x1, y1, z1, v1⟩ := BP.f
           obtain ⟨x2, y2, z2, v2⟩ := BQ.f
           obtain ⟨xA, yA, zA, vA⟩ := (HA9.out.ee hw).f
           obtain ⟨xB, yB, zB, vB⟩ := (HB9.out.ee hw).f
           obtain ⟨xS, yS, zS, vS⟩ := (HS9.out.ee hw).f
           go_wp2_with fail
           clear x1 y1 z1 v1 x2 y2 z2 v2 xA yA zA vA xB yB zB vB xS yS zS vS
           refine (ks0 _).mono ?_
           rintro e wr0 ⟨rfl, hb⟩
           replace BP := BP.ee hb
           replace BQ := BQ.ee hb
           replace hw := upB hw hb
           clear hb
           obtain ⟨x1, y1, z1, v1⟩ := BP.f
           obtain ⟨x2, y2, z2, v2⟩ := BQ.f
           obtain ⟨xA, yA, zA, vA⟩ := (HA9.out.ee hw).f
           obtain ⟨xB, yB, zB, vB⟩ := (HB9.out.ee hw).f
           obtain ⟨xS, yS, zS, vS⟩ := (HS9.out.ee hw).f
           go_wp2_with fail
           clear x1 y1 z1 v1 x2 y2 z2 v2 xA yA zA vA xB yB zB vB xS yS zS vS
           rw [rounds_succ]
           refine zA2 fun wq0 hW => ?_
           replace BP := BP.old (.cells #[.int .i64 S.A.x, .int .i64 S.A.y] 30)
           rw [← hW] at BP
           replace BQ := BQ.old (.cells #[.int .i64 S.A.x, .int .i64 S.A.y] 30)
           rw [← hW] at BQ
           replace hw : Below wf.heap.size wf wq0 := by have hl := hw.size; rw [hW]; go_grown
           clear hW
           obtain ⟨x1, y1, z1, v1⟩ := BP.f
           obtain ⟨x2, y2, z2, v2⟩ := BQ.f
           obtain ⟨xA, yA, zA, vA⟩ := (HA9.out.ee hw).f
           obtain ⟨xB, yB, zB, vB⟩ := (HB9.out.ee hw).f
           obtain ⟨xS, yS, zS, vS⟩ := (HS9.out.ee hw).f
           go_wp2_with fail
           clear x1 y1 z1 v1 x2 y2 z2 v2 xA yA zA vA xB yB zB vB xS yS zS vS
           refine (ks1 _).mono ?_
           rintro e wr1 ⟨rfl, hb⟩
           replace BP := BP.ee hb
           replace BQ := BQ.ee hb
           replace hw := upB hw hb
           clear hb
           obtain ⟨x1, y1, z1, v1⟩ := BP.f
           obtain ⟨x2, y2, z2, v2⟩ := BQ.f
           obtain ⟨xA, yA, zA, vA⟩ := (HA9.out.ee hw).f
           obtain ⟨xB, yB, zB, vB⟩ := (HB9.out.ee hw).f
           obtain ⟨xS, yS, zS, vS⟩ := (HS9.out.ee hw).f
           go_wp2_with fail
           clear x1 y1 z1 v1 x2 y2 z2 v2 xA yA zA vA xB yB zB vB xS yS zS vS
           rw [rounds_succ]
           refine zA2 fun wq1 hW => ?_
           replace BP := BP.old (.cells #[.int .i64 S.B.x, .int .i64 S.B.y] 30)
           rw [← hW] at BP
           replace BQ := BQ.old (.cells #[.int .i64 S.B.x, .int .i64 S.B.y] 30)
           rw [← hW] at BQ
           replace hw : Below wf.heap.size wf wq1 := by have hl := hw.size; rw [hW]; go_grown
           clear hW
           obtain ⟨x1, y1, z1, v1⟩ := BP.f
           obtain ⟨x2, y2, z2, v2⟩ := BQ.f
           obtain ⟨xA, yA, zA, vA⟩ := (HA9.out.ee hw).f
           obtain ⟨xB, yB, zB, vB⟩ := (HB9.out.ee hw).f
           obtain ⟨xS, yS, zS, vS⟩ := (HS9.out.ee hw).f
           go_wp2_with fail
           clear x1 y1 z1 v1 x2 y2 z2 v2 xA yA zA vA xB yB zB vB xS yS zS vS
           refine (ks2 _).mono ?_
           rintro e wr2 ⟨rfl, hb⟩
           replace BP := BP.ee hb
           replace BQ := BQ.ee hb
           replace hw := upB hw hb
           clear hb
           obtain ⟨x1, y1, z1, v1⟩ := BP.f
           obtain ⟨x2, y2, z2, v2⟩ := BQ.f
           obtain ⟨xA, yA, zA, vA⟩ := (HA9.out.ee hw).f
           obtain ⟨xB, yB, zB, vB⟩ := (HB9.out.ee hw).f
           obtain ⟨xS, yS, zS, vS⟩ := (HS9.out.ee hw).f
           go_wp2_with fail
           clear x1 y1 z1 v1 x2 y2 z2 v2 xA yA zA vA xB yB zB vB xS yS zS vS
           rw [rounds_succ]
           refine zA2 fun wq2 hW => ?_
           replace BP : Box wq2 bkP [.int .i64 c.x, .int .i64 c.y] 30 := by rw [hW]; exact ((BP.old _).set_ne ⟨bkP + 1, 0, none⟩ (.int .i64 S.C.x) (by show bkP + 1 ≠ _; omega)).set_ne ⟨bkP + 1, 1, none⟩ (.int .i64 S.C.y) (by show bkP + 1 ≠ _; omega)
           replace BQ : Box wq2 (bkP + 1) [.int .i64 S.C.x, .int .i64 S.C.y] 30 := by rw [hW]; exact ((BQ.old _).set 0 (.int .i64 S.C.x)).set 1 (.int .i64 S.C.y)
           replace hw : Below wf.heap.size wf wq2 := by have hl := hw.size; rw [hW]; go_grown
           clear hW
           go_wp2_with fail
           go_meet
           exact ⟨hw, BP, BQ⟩
     ·as_aux_lemma =>
           go_wp2_with fail
           refine wp_loop_rounds 4 ?_
           try rw [rounds_succ]
           obtain ⟨x1, y1, z1, v1⟩ := BP.f
           obtain ⟨x2, y2, z2, v2⟩ := BQ.f
           obtain ⟨xA, yA, zA, vA⟩ := (HA9.out.ee hw).f
           obtain ⟨xB, yB, zB, vB⟩ := (HB9.out.ee hw).f
           obtain ⟨xS, yS, zS, vS⟩ := (HS9.out.ee hw).f
           go_wp2_with fail
           clear x1 y1 z1 v1 x2 y2 z2 v2 xA yA zA vA xB yB zB vB xS yS zS vS
           refine (ks0 _).mono ?_
           rintro e wr0 ⟨rfl, hb⟩
           replace BP := BP.ee hb
           replace BQ := BQ.ee hb
           replace hw := upB hw hb
           clear hb
           obtain ⟨x1, y1, z1, v1⟩ := BP.f
           obtain ⟨x2, y2, z2, v2⟩ := BQ.f
           obtain ⟨xA, yA, zA, vA⟩ := (HA9.out.ee hw).f
           obtain ⟨xB, yB, zB, vB⟩ := (HB9.out.ee hw).f
           obtain ⟨xS, yS, zS, vS⟩ := (HS9.out.ee hw).f
           go_wp2_with fail
           clear x1 y1 z1 v1 x2 y2 z2 v2 xA yA zA vA xB yB zB vB xS yS zS vS
           rw [rounds_succ]
           refine zA2 fun wq0 hW => ?_
           replace BP : Box wq0 bkP [.int .i64 c.x, .int .i64 c.y] 30 := by rw [hW]; exact ((BP.old _).set_ne ⟨bkP + 1, 0, none⟩ (.int .i64 S.A.x) (by show bkP + 1 ≠ _; omega)).set_ne ⟨bkP + 1, 1, none⟩ (.int .i64 S.A.y) (by show bkP + 1 ≠ _; omega)
           replace BQ : Box wq0 (bkP + 1) [.int .i64 S.A.x, .int .i64 S.A.y] 30 := by rw [hW]; exact ((BQ.old _).set 0 (.int .i64 S.A.x)).set 1 (.int .i64 S.A.y)
           replace hw : Below wf.heap.size wf wq0 := by have hl := hw.size; rw [hW]; go_grown
           clear hW
           obtain ⟨x1, y1, z1, v1⟩ := BP.f
           obtain ⟨x2, y2, z2, v2⟩ := BQ.f
           obtain ⟨xA, yA, zA, vA⟩ := (HA9.out.ee hw).f
           obtain ⟨xB, yB, zB, vB⟩ := (HB9.out.ee hw).f
           obtain ⟨xS, yS, zS, vS⟩ := (HS9.out.ee hw).f
           go_wp2_with fail
           clear x1 y1 z1 v1 x2 y2 z2 v2 xA yA zA vA xB yB zB vB xS yS zS vS
           refine (ks1 _).mono ?_
           rintro e wr1 ⟨rfl, hb⟩
           replace BP := BP.ee hb
           replace BQ := BQ.ee hb
           replace hw := upB hw hb
           clear hb
           obtain ⟨x1, y1, z1, v1⟩ := BP.f
           obtain ⟨x2, y2, z2, v2⟩ := BQ.f
           obtain ⟨xA, yA, zA, vA⟩ := (HA9.out.ee hw).f
           obtain ⟨xB, yB, zB, vB⟩ := (HB9.out.ee hw).f
           obtain ⟨xS, yS, zS, vS⟩ := (HS9.out.ee hw).f
           go_wp2_with fail
           clear x1 y1 z1 v1 x2 y2 z2 v2 xA yA zA vA xB yB zB vB xS yS zS vS
           rw [rounds_succ]
           refine zA2 fun wq1 hW => ?_
           replace BP := BP.old (.cells #[.int .i64 S.B.x, .int .i64 S.B.y] 30)
           rw [← hW] at BP
           replace BQ := BQ.old (.cells #[.int .i64 S.B.x, .int .i64 S.B.y] 30)
           rw [← hW] at BQ
           replace hw : Below wf.heap.size wf wq1 := by have hl := hw.size; rw [hW]; go_grown
           clear hW
           obtain ⟨x1, y1, z1, v1⟩ := BP.f
           obtain ⟨x2, y2, z2, v2⟩ := BQ.f
           obtain ⟨xA, yA, zA, vA⟩ := (HA9.out.ee hw).f
           obtain ⟨xB, yB, zB, vB⟩ := (HB9.out.ee hw).f
           obtain ⟨xS, yS, zS, vS⟩ := (HS9.out.ee hw).f
           go_wp2_with fail
           clear x1 y1 z1 v1 x2 y2 z2 v2 xA yA zA vA xB yB zB vB xS yS zS vS
           refine (ks2 _).mono ?_
           rintro e wr2 ⟨rfl, hb⟩
           replace BP := BP.ee hb
           replace BQ := BQ.ee hb
           replace hw := upB hw hb
           clear hb
           obtain ⟨x1, y1, z1, v1⟩ := BP.f
           obtain ⟨x2, y2, z2, v2⟩ := BQ.f
           obtain ⟨xA, yA, zA, vA⟩ := (HA9.out.ee hw).f
           obtain ⟨xB, yB, zB, vB⟩ := (HB9.out.ee hw).f
           obtain ⟨xS, yS, zS, vS⟩ := (HS9.out.ee hw).f
           go_wp2_with fail
           clear x1 y1 z1 v1 x2 y2 z2 v2 xA yA zA vA xB yB zB vB xS yS zS vS
           rw [rounds_succ]
           refine zA2 fun wq2 hW => ?_
           replace BP := BP.old (.cells #[.int .i64 S.C.x, .int .i64 S.C.y] 30)
           rw [← hW] at BP
           replace BQ := BQ.old (.cells #[.int .i64 S.C.x, .int .i64 S.C.y] 30)
           rw [← hW] at BQ
           replace hw : Below wf.heap.size wf wq2 := by have hl := hw.size; rw [hW]; go_grown
           clear hW
           go_wp2_with fail
           go_meet
           exact ⟨hw, BP, BQ⟩
     ·as_aux_lemma =>
           go_wp2_with fail
           refine wp_loop_rounds 4 ?_
           try rw [rounds_succ]
           obtain ⟨x1, y1, z1, v1⟩ := BP.f
           obtain ⟨x2, y2, z2, v2⟩ := BQ.f
           obtain ⟨xA, yA, zA, vA⟩ := (HA9.out.ee hw).f
           obtain ⟨xB, yB, zB, vB⟩ := (HB9.out.ee hw).f
           obtain ⟨xS, yS, zS, vS⟩ := (HS9.out.ee hw).f
           go_wp2_with fail
           clear x1 y1 z1 v1 x2 y2 z2 v2 xA yA zA vA xB yB zB vB xS yS zS vS
           refine (ks0 _).mono ?_
           rintro e wr0 ⟨rfl, hb⟩
           replace BP := BP.ee hb
           replace BQ := BQ.ee hb
           replace hw := upB hw hb
           clear hb
           obtain ⟨x1, y1, z1, v1⟩ := BP.f
           obtain ⟨x2, y2, z2, v2⟩ := BQ.f
           obtain ⟨xA, yA, zA, vA⟩ := (HA9.out.ee hw).f
           obtain ⟨xB, yB, zB, vB⟩ := (HB9.out.ee hw).f
           obtain ⟨xS, yS, zS, vS⟩ := (HS9.out.ee hw).f
           go_wp2_with fail
           clear x1 y1 z1 v1 x2 y2 z2 v2 xA yA zA vA xB yB zB vB xS yS zS vS
           rw [rounds_succ]
           refine zA2 fun wq0 hW => ?_
           replace BP := BP.old (.cells #[.int .i64 S.A.x, .int .i64 S.A.y] 30)
           rw [← hW] at BP
           replace BQ := BQ.old (.cells #[.int .i64 S.A.x, .int .i64 S.A.y] 30)
           rw [← hW] at BQ
           replace hw : Below wf.heap.size wf wq0 := by have hl := hw.size; rw [hW]; go_grown
           clear hW
           obtain ⟨x1, y1, z1, v1⟩ := BP.f
           obtain ⟨x2, y2, z2, v2⟩ := BQ.f
           obtain ⟨xA, yA, zA, vA⟩ := (HA9.out.ee hw).f
           obtain ⟨xB, yB, zB, vB⟩ := (HB9.out.ee hw).f
           obtain ⟨xS, yS, zS, vS⟩ := (HS9.out.ee hw).f
           go_wp2_with fail
           clear x1 y1 z1 v1 x2 y2 z2 v2 xA yA zA vA xB yB zB vB xS yS zS vS
           refine (ks1 _).mono ?_
           rintro e wr1 ⟨rfl, hb⟩
           replace BP := BP.ee hb
           replace BQ := BQ.ee hb
           replace hw := upB hw hb
           clear hb
           obtain ⟨x1, y1, z1, v1⟩ := BP.f
           obtain ⟨x2, y2, z2, v2⟩ := BQ.f
           obtain ⟨xA, yA, zA, vA⟩ := (HA9.out.ee hw).f
           obtain ⟨xB, yB, zB, vB⟩ := (HB9.out.ee hw).f
           obtain ⟨xS, yS, zS, vS⟩ := (HS9.out.ee hw).f
           go_wp2_with fail
           clear x1 y1 z1 v1 x2 y2 z2 v2 xA yA zA vA xB yB zB vB xS yS zS vS
           rw [rounds_succ]
           refine zA2 fun wq1 hW => ?_
           replace BP : Box wq1 bkP [.int .i64 c.x, .int .i64 c.y] 30 := by rw [hW]; exact ((BP.old _).set_ne ⟨bkP + 1, 0, none⟩ (.int .i64 S.B.x) (by show bkP + 1 ≠ _; omega)).set_ne ⟨bkP + 1, 1, none⟩ (.int .i64 S.B.y) (by show bkP + 1 ≠ _; omega)
           replace BQ : Box wq1 (bkP + 1) [.int .i64 S.B.x, .int .i64 S.B.y] 30 := by rw [hW]; exact ((BQ.old _).set 0 (.int .i64 S.B.x)).set 1 (.int .i64 S.B.y)
           replace hw : Below wf.heap.size wf wq1 := by have hl := hw.size; rw [hW]; go_grown
           clear hW
           obtain ⟨x1, y1, z1, v1⟩ := BP.f
           obtain ⟨x2, y2, z2, v2⟩ := BQ.f
           obtain ⟨xA, yA, zA, vA⟩ := (HA9.out.ee hw).f
           obtain ⟨xB, yB, zB, vB⟩ := (HB9.out.ee hw).f
           obtain ⟨xS, yS, zS, vS⟩ := (HS9.out.ee hw).f
           go_wp2_with fail
           clear x1 y1 z1 v1 x2 y2 z2 v2 xA yA zA vA xB yB zB vB xS yS zS vS
           refine (ks2 _).mono ?_
           rintro e wr2 ⟨rfl, hb⟩
           replace BP := BP.ee hb
           replace BQ := BQ.ee hb
           replace hw := upB hw hb
           clear hb
           obtain ⟨x1, y1, z1, v1⟩ := BP.f
           obtain ⟨x2, y2, z2, v2⟩ := BQ.f
           obtain ⟨xA, yA, zA, vA⟩ := (HA9.out.ee hw).f
           obtain ⟨xB, yB, zB, vB⟩ := (HB9.out.ee hw).f
           obtain ⟨xS, yS, zS, vS⟩ := (HS9.out.ee hw).f
           go_wp2_with fail
           clear x1 y1 z1 v1 x2 y2 z2 v2 xA yA zA vA xB yB zB vB xS yS zS vS
           rw [rounds_succ]
           refine zA2 fun wq2 hW => ?_
           replace BP := BP.old (.cells #[.int .i64 S.C.x, .int .i64 S.C.y] 30)
           rw [← hW] at BP
           replace BQ := BQ.old (.cells #[.int .i64 S.C.x, .int .i64 S.C.y] 30)
           rw [← hW] at BQ
           replace hw : Below wf.heap.size wf wq2 := by have hl := hw.size; rw [hW]; go_grown
           clear hW
           go_wp2_with fail
           go_meet
           exact ⟨hw, BP, BQ⟩
    case rest =>
     obtain ⟨hw1, BP1, BQ1⟩ := hcut
     clear BP BQ ks0 ks1 ks2 e1 e2 e3 e4 e5 e6 kc2 wk2
     have hw9 := Lib.hid hw1
     have HP9 := Lib.hid BP1
     have HQ9 := Lib.hid BQ1
     clear hw1 BP1 BQ1 hw
     have hE3 : E3.length ≤ 1000000 := mb_len2 HG3.out HL3.out HM.out HM1.out
     have ct := fun W B H => zDk m2 b2 E3 hE3 W B H
     have hIp := (zAp (c := cmpT) (heads (fun _ => true) E3)).trans HG3.out.heads
     have hI3 := Lib.hid (show (srt cmpT (heads (fun _ => true) E3)).length = m from by rw [hIp.length_eq, HL3.out, HM.out])
     have hI4 := Lib.hid (show ∀ T ∈ srt cmpT (heads (fun _ => true) E3), valT T = true from fun T h => HG3.out.val T (hIp.mem_iff.1 h))
     have hI5 := Lib.hid (show sumA (srt cmpT (heads (fun _ => true) E3)) = 2 * (s * s) from by rw [zHi hIp]; exact HT3.out.area)
     generalize srt cmpT (heads (fun _ => true) E3) = J at *
     rw [hI3.out] at ct
     clear hIp
     go_wp2_with fail
     refine (ct _ (HN9.out.ext hw9.out rfl) (HM9.out.ext hw9.out rfl)).mono ?_
     rintro e w31 ⟨a8, c8, rfl, hr8, hb⟩
     replace hw9 := Lib.hid (hw9.out.trans (hb.mono hw9.out.size))
     replace HP9 := Lib.hid (HP9.out.ee hb)
     replace HQ9 := Lib.hid (HQ9.out.ee hb)
     have HR8 := Lib.hid hr8
     clear hb hr8 ct
     have hm100 := HM1.out
     go_wp2_with fail
     go_loopw [24, 26] (fun va vi wr => ∃ k : Nat, k ≤ m ∧ va = .int .i64 (sumA (J.take k)) ∧ vi = .int .i64 k ∧ Below w31.heap.size w31 wr) (fun _ vi _ => m - (intOf vi).toNat)
     case atStart => exact ⟨0, Nat.zero_le _, rfl, rfl, Below.refl _ _⟩
     case round =>
      obtain ⟨k, hk, rfl, rfl, hw⟩ := hrel
      by_cases hkm : k < m
      case pos =>
       have hkJ : k < J.length := by rw [hI3.out]; exact hkm
       obtain ⟨ad8, X, ea, eX, hX0⟩ := HR8.out.six hkJ
       have hX := hX0.ee hw
       have hs1 := mb_sum HT3.out hI4.out hI5.out hkJ (mb_30 HS.out HS2.out)
       have hv := hI4.out _ (List.getElem_mem hkJ)
       generalize J[k] = U at *
       obtain ⟨vA, vB, vC, _⟩ := zDe hv
       have cu := rtwi_1 U hv vA vB vC
       have HS1 := Lib.hid hs1.1
       have ew := hs1.2
       generalize sumA (J.take k) = u at *
       generalize det U.A U.B U.C = du at *
       subst ea
       have q1 : (k : Int) < (m : Int) := Int.ofNat_lt.2 hkm
       have q2 : (0 : Int) ≤ (k : Int) := Int.natCast_nonneg k
       have hk1 : wrap64 ((k : Int) + 1) = (k : Int) + 1 := mb_k hkm hm100
       clear hX0 hs1 hv vA vB vC
       obtain ⟨s0, t0, t1, t2, t3, t4, t5⟩ := hX.f
       go_wp2_with fail
       refine (cu _).mono ?_
       rintro e w32 ⟨rfl, hb⟩
       clear s0 t0 t1 t2 t3 t4 t5 cu
       go_wp2_with fail
       go_roundw
       case rel => exact ⟨k + 1, hkm, by rw [HS1.out]; first | rfl | rw [ew], by first | rfl | (rw [hk1]; rfl), (upB hw hb)⟩
       case measure => first | exact zJv hkm | exact (by rw [hk1]; exact zJv hkm : m - (intOf (.int .i64 (wrap64 ((k : Int) + 1)))).toNat < m - (intOf (.int .i64 (k : Int))).toNat)
      case neg =>
       have hkm2 : k = m := Nat.le_antisymm hk (Nat.not_lt.1 hkm)
       subst hkm2
       rw [List.take_of_length_le (Nat.le_of_eq hI3.out), hI5.out, ← Int.mul_assoc]
       have w1 : wrap64 (2 * s) = 2 * s := mb_w1 HS.out HS2.out
       have w2 : wrap64 (2 * s * s) = 2 * s * s := mb_w2 HS.out HS2.out
       have cpt := fun W B H => zFl m2 b2 E3 hE3 W B H
       have cco := fun W H => rcorners_any (some ad) c5 k I HM (mb_c hm100) W H
       have hh := HH3.out
       have cha := fun W B H => zE4 m2 b2 E3 T (HOKI.out T HT1.out) W B H
       rw [hh] at cha
       have hw8 := hw9.out.trans (hw.mono hw9.out.size)
       have BN1 := HN9.out.ee hw8
       have HM3 := HM9.out.ee hw8
       have HR3 := HR9.out.ee hw8
       clear hk hkm hh
       go_wp2_with fail
       refine (cpt _ BN1 HM3).mono ?_
       rintro e w40 ⟨M1, a40, c40, rfl, hr40, hR40, hM40, hb⟩
       have hP40 := Lib.hid hM40
       have hR40' := Lib.hid hR40
       replace BN1 := BN1.ee hb
       replace HM3 := HM3.ee hb
       replace HR3 := HR3.ee hb
       have hw40 := (upB hw8 hb)
       have HP40 := (HP9.out.ee hw).ee hb
       have HQ40 := (HQ9.out.ee hw).ee hb
       clear hb hM40 hR40 cpt
       go_wp2_with fail
       refine (cco _ HR3).mono ?_
       rintro e w41 ⟨M2, a41, c41, rfl, hr41, hR41, hM41, hb⟩
       have hMM : M1 = M2 := zCg wholeP hR40'.out hR41 (fun p => by rw [hP40.out p, hM41 p]; exact mb_pts HG3.out HC3.out p)
       subst hMM
       have ca := alike_P a40 a41 c40 c41 M1 M1 w41 (hr40.ee hb) hr41 (mb_pl HG3.out HL3.out HM.out hm100 hR40'.out (fun p => (hP40.out p).1))
       rw [decide_eq_true rfl] at ca
       replace BN1 := BN1.ee hb
       replace HM3 := HM3.ee hb
       replace HR3 := HR3.ee hb
       replace HP40 := HP40.ee hb
       replace HQ40 := HQ40.ee hb
       replace hw40 := upB hw40 hb
       clear hb hM41 hR41 cco hr40 hr41
       go_wp2_with fail
       refine ca.mono ?_
       rintro e w42 ⟨rfl, hb⟩
       replace BN1 := BN1.ee hb
       replace HM3 := HM3.ee hb
       replace HR3 := HR3.ee hb
       replace HP40 := HP40.ee hb
       replace HQ40 := HQ40.ee hb
       replace hw40 := upB hw40 hb
       obtain ⟨xt, yt, zt, vt⟩ := (HT9.out.ee hw40).f
       clear hb ca
       go_wp2_with fail
       refine (cha _ BN1 HM3).mono ?_
       rintro e w43 ⟨rfl, hb⟩
       replace BN1 := BN1.ee hb
       replace HM3 := HM3.ee hb
       replace HR3 := HR3.ee hb
       replace HP40 := HP40.ee hb
       replace HQ40 := HQ40.ee hb
       replace hw40 := upB hw40 hb
       clear hb cha xt yt zt vt
       obtain ⟨xp, yp, zp, vp⟩ := HP40.f
       obtain ⟨xq, yq, zq, vq⟩ := HQ40.f
       go_wp2_with fail
       refine (zHv m2 b2 E3 L3 HG3.out c d ⟨(mb_ok HOKI.out HT1.out HCY.out).2.2, (mb_ok HOKI.out hS3.out cS).2.2⟩ w43 BN1 HM3).mono ?_
       rintro e w44 ⟨r2, E4, L4, rfl, hg, H4, G4, F4⟩
       obtain ⟨rfl, p4⟩ := HB3.out _ _ _ G4 F4
       replace BN1 := BN1.turn HM3 hg
       replace HR3 := HR3.turn cT_ne HM3 hg
       have hw44 := zBr (HW6.out.trans (hw40.mono HW6.out.size)) hg (HW6.out.trans (hw40.mono HW6.out.size)).size HB2.out
       have hE4 : E4.length ≤ 1000000 := zKd G4 p4 HM.out HM1.out
       have ct4 := zDk m2 b2 E4 hE4 w44 BN1 H4
       rw [show srt cmpT (heads (fun _ => true) E4) = I from (wholeT.srt_of_perm (G4.heads.trans p4)).trans HRS.out, HM.out] at ct4
       clear hg F4 xp yp zp vp xq yq zq vq HM3
       go_wp2_with fail
       refine ct4.mono ?_
       rintro e w45 ⟨aT, cT', rfl, hrT, hb⟩
       have hw45 := (upB hw44 hb)
       have ca := zJi aT (some ad) cT' c5 I I w45 hrT (HR3.ee hb) (mb_le HM.out HM1.out)
       rw [decide_eq_true rfl, HM.out] at ca
       clear hb ct4
       go_wp2_with fail
       refine ca.mono ?_
       rintro e w46 ⟨rfl, hb⟩
       replace hw45 := upB hw45 hb
       clear hb ca
       go_wp2_with fail
       refine (zEv _).mono ?_
       rintro e w47 ⟨rfl, hb⟩
       replace hw45 := upB hw45 hb
       go_wp2
       go_ret
       exact ⟨rfl, hw45⟩
end Go.Proofs.YtmobnmjjmafibaaGreat
