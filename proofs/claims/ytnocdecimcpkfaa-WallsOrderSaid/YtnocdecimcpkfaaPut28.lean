/- Put together: WalT, WalX, WalY. -/
import Derived.Test.YtnocdecimcpkfaaRows
import Derived.Test.YtnocdecimcpkfaaPut26
import Derived.Test.YtnocdecimcpkfaaPut2
import Derived.WalkKit
import Derived.WalkSpells
import Derived.WalkLawsBesides
import Derived.Laws.Externs
import Derived.Deep.QuietTactic
import Derived.BigQuiet
import Derived.Lib.Hide
import Derived.Handy
import Derived.OwnWalk
import Derived.LoopN
import Derived.RegionTactic
import Derived.Test.YtnocdecimcpkfaaPut27
import Derived.Deep.Slices
import Derived.Carry
namespace Go.Proofs.Ytnocdecimcpkfaa
open Go.RowKit Go.Sort
attribute [local go_sem] rOper rAt rUpon cell_set sg_i64 sg_u64 alloc_cell alloc_frozen
attribute [local go_sem 10000] pt_eql pt_neq wal_eql wal_neq
attribute [local irreducible] rWalk

set_option maxRecDepth 100000 in
set_option maxHeartbeats 4000000 in
theorem awake_any  (w : World) :
    Calls Try.prog 7 #[] w fun e w' => e = .returned (.bool true) ∧ Below w.heap.size w w' := by
  go_enter Try.func7, Try.ntmps7
  go_wp2_with fail
  refine at_call fun W1 hW => ?_
  have Ba : Box W1 (w.heap.size) [.int .i64 0, .int .i64 0] 33 := by rw [hW]; exact (Box.new rfl).old _
  have Bb : Box W1 (w.heap.size + 1) [.int .i64 2, .int .i64 0] 33 := by rw [hW]; exact Box.new (by simp)
  have hw : Below w.heap.size w W1 := by rw [hW]; go_grown
  clear hW
  obtain ⟨m1, m2⟩ := num_mk
  obtain ⟨n1, n2⟩ := num_no
  have c1 := make_any pB pA 1
  have c2 := make_any pA pA 1
  rw [m1, m2] at c1
  rw [n1, n2] at c2
  simp only [pA, pB, wAB] at c1 c2
  refine (c1 _).mono ?_
  rintro e w2 ⟨rfl, hb⟩
  replace Ba := Ba.ext hb rfl
  replace Bb := Bb.ext hb rfl
  replace hw := hw.trans (hb.mono hw.size)
  clear hb
  obtain ⟨xa, ya, za, va⟩ := Ba.facts
  obtain ⟨xb, yb, zb, vb⟩ := Bb.facts
  go_wp2_with fail
  refine at_call fun W3 hW => ?_
  obtain ⟨bkw, hbw⟩ : ∃ b, w2.heap.size = b := ⟨_, rfl⟩
  rw [hbw]
  have law := Ba.lt
  rw [hbw] at law
  have lbw := Bb.lt
  rw [hbw] at lbw
  have fw := hw.size
  rw [hbw] at fw
  have Bw : Box W3 bkw [.int .i64 0, .int .i64 0, .int .i64 2, .int .i64 0, .int .i64 1] 35 := by rw [hW]; exact Box.new hbw.symm
  replace Ba : Box W3 (w.heap.size) [.int .i64 0, .int .i64 0] 33 := by rw [hW]; exact Ba.old _
  replace Bb : Box W3 (w.heap.size + 1) [.int .i64 2, .int .i64 0] 33 := by rw [hW]; exact Bb.old _
  replace hw : Below w.heap.size w W3 := by have hl := hw.size; rw [hW]; go_grown
  clear hW hbw
  refine (c2 _).mono ?_
  rintro e w4 ⟨rfl, hb⟩
  clear xa ya za va xb yb zb vb
  replace Ba := Ba.ext hb rfl
  replace Bb := Bb.ext hb rfl
  replace Bw := Bw.ext hb rfl
  replace hw := hw.trans (hb.mono hw.size)
  clear hb
  obtain ⟨xa, ya, za, va⟩ := Ba.facts
  obtain ⟨xb, yb, zb, vb⟩ := Bb.facts
  obtain ⟨xw, yw, zw, vw⟩ := Bw.facts
  go_wp2_with fail
  refine at_call fun W5 hW => ?_
  obtain ⟨bkx, hbx⟩ : ∃ b, w4.heap.size = b := ⟨_, rfl⟩
  rw [hbx]
  have lax := Ba.lt
  rw [hbx] at lax
  have lbx := Bb.lt
  rw [hbx] at lbx
  have lwx := Bw.lt
  rw [hbx] at lwx
  have fx := hw.size
  rw [hbx] at fx
  have Bx : Box W5 (bkx) [.int .i64 0, .int .i64 0, .int .i64 0, .int .i64 0, .int .i64 0] 35 := by rw [hW, ← hbx]; exact (Box.new rfl).old _
  have Bl1 : Box W5 (bkx + 1) [.int .i64 0, .int .i64 0, .int .i64 2, .int .i64 0, .int .i64 1] 35 := by rw [hW, ← hbx]; exact Box.new (by simp)
  replace Ba : Box W5 (w.heap.size) [.int .i64 0, .int .i64 0] 33 := by rw [hW]; exact ((Ba).old _).old _
  replace Bb : Box W5 (w.heap.size + 1) [.int .i64 2, .int .i64 0] 33 := by rw [hW]; exact ((Bb).old _).old _
  replace Bw : Box W5 (bkw) [.int .i64 0, .int .i64 0, .int .i64 2, .int .i64 0, .int .i64 1] 35 := by rw [hW]; exact ((Bw).old _).old _
  replace hw : Below w.heap.size w W5 := by have hl := hw.size; rw [hW]; go_grown
  clear hW hbx
  refine (new_one wAB num_good _ W5 Bl1).mono ?_
  rintro e w6 ⟨sb, v, rfl, S, hs0, hv0, hb⟩
  clear xa ya za va xb yb zb vb xw yw zw vw
  have la0 := Ba.lt
  replace Ba := Ba.ext hb rfl
  have lb0 := Bb.lt
  replace Bb := Bb.ext hb rfl
  have lw0 := Bw.lt
  replace Bw := Bw.ext hb rfl
  have lx0 := Bx.lt
  replace Bx := Bx.ext hb rfl
  have ll10 := Bl1.lt
  replace Bl1 := Bl1.ext hb rfl
  have hsb : w.heap.size ≤ sb := Nat.le_trans hw.size hs0
  have hv : ∀ g, v.ownBlock = some g → w.heap.size ≤ g := fun g e => Nat.le_trans hw.size (hv0 g e)
  have nFa : ¬ Foot sb v _ := foot_old la0 hs0 hv0
  have nFb : ¬ Foot sb v _ := foot_old lb0 hs0 hv0
  have nFw : ¬ Foot sb v _ := foot_old lw0 hs0 hv0
  have nFx : ¬ Foot sb v _ := foot_old lx0 hs0 hv0
  have nFl1 : ¬ Foot sb v _ := foot_old ll10 hs0 hv0
  replace hw := hw.trans (hb.mono hw.size)
  clear hb
  obtain ⟨xa, ya, za, va⟩ := Ba.facts
  obtain ⟨xb, yb, zb, vb⟩ := Bb.facts
  obtain ⟨xw, yw, zw, vw⟩ := Bw.facts
  obtain ⟨xx, yx, zx, vx⟩ := Bx.facts
  go_wp2_with fail
  refine at_call fun W7 hW => ?_
  obtain ⟨bkl2, hbl2⟩ : ∃ b, w6.heap.size = b := ⟨_, rfl⟩
  rw [hbl2]
  have lal2 := Ba.lt
  rw [hbl2] at lal2
  have lbl2 := Bb.lt
  rw [hbl2] at lbl2
  have lwl2 := Bw.lt
  rw [hbl2] at lwl2
  have lxl2 := Bx.lt
  rw [hbl2] at lxl2
  have fl2 := hw.size
  rw [hbl2] at fl2
  have Bl2 : Box W7 bkl2 [.int .i64 0, .int .i64 0, .int .i64 2, .int .i64 0, .int .i64 1, .int .i64 0, .int .i64 0, .int .i64 2, .int .i64 0, .int .i64 1] 35 := by rw [hW]; exact Box.new hbl2.symm
  replace Ba : Box W7 (w.heap.size) [.int .i64 0, .int .i64 0] 33 := by rw [hW]; exact Ba.old _
  replace Bb : Box W7 (w.heap.size + 1) [.int .i64 2, .int .i64 0] 33 := by rw [hW]; exact Bb.old _
  replace Bw : Box W7 (bkw) [.int .i64 0, .int .i64 0, .int .i64 2, .int .i64 0, .int .i64 1] 35 := by rw [hW]; exact Bw.old _
  replace Bx : Box W7 (bkx) [.int .i64 0, .int .i64 0, .int .i64 0, .int .i64 0, .int .i64 0] 35 := by rw [hW]; exact Bx.old _
  replace hw : Below w.heap.size w W7 := by have hl := hw.size; rw [hW]; go_grown
  replace S : SetAt W7 sb v [wAB] := by rw [hW]; exact (S.alloc _)
  clear hW hbl2
  refine (new_twins wAB num_good _ W7 Bl2).mono ?_
  rintro e w8 ⟨rfl, hb⟩
  clear xa ya za va xb yb zb vb xw yw zw vw xx yx zx vx
  replace Ba := Ba.ext hb rfl
  replace Bb := Bb.ext hb rfl
  replace Bw := Bw.ext hb rfl
  replace Bx := Bx.ext hb rfl
  replace Bl2 := Bl2.ext hb rfl
  replace S := S.ext hb rfl
  replace hw := hw.trans (hb.mono hw.size)
  clear hb
  obtain ⟨xa, ya, za, va⟩ := Ba.facts
  obtain ⟨xb, yb, zb, vb⟩ := Bb.facts
  obtain ⟨xw, yw, zw, vw⟩ := Bw.facts
  obtain ⟨xx, yx, zx, vx⟩ := Bx.facts
  go_wp2_with fail
  refine at_call fun W9 hW => ?_
  obtain ⟨bkl3, hbl3⟩ : ∃ b, w8.heap.size = b := ⟨_, rfl⟩
  rw [hbl3]
  have lal3 := Ba.lt
  rw [hbl3] at lal3
  have lbl3 := Bb.lt
  rw [hbl3] at lbl3
  have lwl3 := Bw.lt
  rw [hbl3] at lwl3
  have lxl3 := Bx.lt
  rw [hbl3] at lxl3
  have fl3 := hw.size
  rw [hbl3] at fl3
  have Bl3 : Box W9 bkl3 [.int .i64 2, .int .i64 0, .int .i64 0, .int .i64 0, .int .i64 1] 35 := by rw [hW]; exact Box.new hbl3.symm
  replace Ba : Box W9 (w.heap.size) [.int .i64 0, .int .i64 0] 33 := by rw [hW]; exact Ba.old _
  replace Bb : Box W9 (w.heap.size + 1) [.int .i64 2, .int .i64 0] 33 := by rw [hW]; exact Bb.old _
  replace Bw : Box W9 (bkw) [.int .i64 0, .int .i64 0, .int .i64 2, .int .i64 0, .int .i64 1] 35 := by rw [hW]; exact Bw.old _
  replace Bx : Box W9 (bkx) [.int .i64 0, .int .i64 0, .int .i64 0, .int .i64 0, .int .i64 0] 35 := by rw [hW]; exact Bx.old _
  replace hw : Below w.heap.size w W9 := by have hl := hw.size; rw [hW]; go_grown
  replace S : SetAt W9 sb v [wAB] := by rw [hW]; exact (S.alloc _)
  clear hW hbl3
  refine (new_unmade ⟨pB, pA, 1⟩ num_bad _ W9 Bl3).mono ?_
  rintro e w10 ⟨rfl, hb⟩
  clear xa ya za va xb yb zb vb xw yw zw vw xx yx zx vx
  replace Ba := Ba.ext hb rfl
  replace Bb := Bb.ext hb rfl
  replace Bw := Bw.ext hb rfl
  replace Bx := Bx.ext hb rfl
  replace Bl3 := Bl3.ext hb rfl
  replace S := S.ext hb rfl
  replace hw := hw.trans (hb.mono hw.size)
  clear hb
  obtain ⟨xa, ya, za, va⟩ := Ba.facts
  obtain ⟨xb, yb, zb, vb⟩ := Bb.facts
  obtain ⟨xw, yw, zw, vw⟩ := Bw.facts
  obtain ⟨xx, yx, zx, vx⟩ := Bx.facts
  go_wp2_with fail
  obtain ⟨a0, cc, hvf, R⟩ := S.rd
  have co := on_set_any sb a0 cc 1 [wAB] pM w10 R
  rw [num_on] at co
  simp only [onV, wAB, pM] at co
  clear R hvf
  refine (co).mono ?_
  rintro e w11 ⟨rfl, hb⟩
  clear xa ya za va xb yb zb vb xw yw zw vw xx yx zx vx
  replace Ba := Ba.ext hb rfl
  replace Bb := Bb.ext hb rfl
  replace Bw := Bw.ext hb rfl
  replace Bx := Bx.ext hb rfl
  replace S := S.ext hb rfl
  replace hw := hw.trans (hb.mono hw.size)
  clear hb
  obtain ⟨xa, ya, za, va⟩ := Ba.facts
  obtain ⟨xb, yb, zb, vb⟩ := Bb.facts
  obtain ⟨xw, yw, zw, vw⟩ := Bw.facts
  obtain ⟨xx, yx, zx, vx⟩ := Bx.facts
  go_wp2_with fail
  refine at_call fun W12 hW => ?_
  obtain ⟨bko, hbo⟩ : ∃ b, w11.heap.size = b := ⟨_, rfl⟩
  rw [hbo]
  have lao := Ba.lt
  rw [hbo] at lao
  have lbo := Bb.lt
  rw [hbo] at lbo
  have lwo := Bw.lt
  rw [hbo] at lwo
  have lxo := Bx.lt
  rw [hbo] at lxo
  have fo := hw.size
  rw [hbo] at fo
  have Bo : Box W12 bko [.int .i64 0, .int .i64 0, .int .i64 2, .int .i64 0, .int .i64 1] 35 := by rw [hW]; exact Box.new hbo.symm
  replace Ba : Box W12 (w.heap.size) [.int .i64 0, .int .i64 0] 33 := by rw [hW]; exact Ba.old _
  replace Bb : Box W12 (w.heap.size + 1) [.int .i64 2, .int .i64 0] 33 := by rw [hW]; exact Bb.old _
  replace Bw : Box W12 (bkw) [.int .i64 0, .int .i64 0, .int .i64 2, .int .i64 0, .int .i64 1] 35 := by rw [hW]; exact Bw.old _
  replace Bx : Box W12 (bkx) [.int .i64 0, .int .i64 0, .int .i64 0, .int .i64 0, .int .i64 0] 35 := by rw [hW]; exact Bx.old _
  replace hw : Below w.heap.size w W12 := by have hl := hw.size; rw [hW]; go_grown
  have nFo : ¬ Foot sb v bko := foot_new S (by omega)
  replace S : SetAt W12 sb v [wAB] := by rw [hW]; exact (S.alloc _)
  clear hW hbo
  refine (add_any sb v [wAB] wMN (by decide) _ S).mono ?_
  rintro e w13 ⟨v2, rfl, S2, hfr, hfs⟩
  clear xa ya za va xb yb zb vb xw yw zw vw xx yx zx vx
  have Bal := Ba.lt
  have Bbl := Bb.lt
  have Bwl := Bw.lt
  have Bxl := Bx.lt
  have Bol := Bo.lt
  replace Ba := hfr.box Ba nFa
  replace Bb := hfr.box Bb nFb
  replace Bw := hfr.box Bw nFw
  replace Bx := hfr.box Bx nFx
  replace Bo := hfr.box Bo nFo
  replace nFa := foot_fresh hfs nFa (by first | exact Bal | exact Nat.lt_succ_of_lt Bal)
  replace nFb := foot_fresh hfs nFb (by first | exact Bbl | exact Nat.lt_succ_of_lt Bbl)
  replace nFw := foot_fresh hfs nFw (by first | exact Bwl | exact Nat.lt_succ_of_lt Bwl)
  replace nFx := foot_fresh hfs nFx (by first | exact Bxl | exact Nat.lt_succ_of_lt Bxl)
  replace nFo := foot_fresh hfs nFo (by first | exact Bol | exact Nat.lt_succ_of_lt Bol)
  have hv2 := fresh_lo hfs hv (by first | exact hw.size | exact Nat.le_succ_of_le hw.size)
  replace hw := hw.trans (hfr.below (foot_lo hsb hv) hw.size)
  have S := S2
  clear S2 hfr hfs
  rw [num_add.1]
  rw [num_add.2] at S
  replace hv := hv2
  clear hv2
  obtain ⟨xa, ya, za, va⟩ := Ba.facts
  obtain ⟨xb, yb, zb, vb⟩ := Bb.facts
  obtain ⟨xw, yw, zw, vw⟩ := Bw.facts
  obtain ⟨xx, yx, zx, vx⟩ := Bx.facts
  obtain ⟨xo, yo, zo, vo⟩ := Bo.facts
  go_wp2_with fail
  refine (rem_any sb v2 [wAB] pB pA _ S).mono ?_
  rintro e w14 ⟨v3, rfl, S2, hfr, hfs⟩
  clear xa ya za va xb yb zb vb xw yw zw vw xx yx zx vx xo yo zo vo
  have Bal := Ba.lt
  have Bbl := Bb.lt
  have Bwl := Bw.lt
  have Bxl := Bx.lt
  have Bol := Bo.lt
  replace Ba := hfr.box Ba nFa
  replace Bb := hfr.box Bb nFb
  replace Bw := hfr.box Bw nFw
  replace Bx := hfr.box Bx nFx
  replace Bo := hfr.box Bo nFo
  replace nFa := foot_fresh hfs nFa (by first | exact Bal | exact Nat.lt_succ_of_lt Bal)
  replace nFb := foot_fresh hfs nFb (by first | exact Bbl | exact Nat.lt_succ_of_lt Bbl)
  replace nFw := foot_fresh hfs nFw (by first | exact Bwl | exact Nat.lt_succ_of_lt Bwl)
  replace nFx := foot_fresh hfs nFx (by first | exact Bxl | exact Nat.lt_succ_of_lt Bxl)
  replace nFo := foot_fresh hfs nFo (by first | exact Bol | exact Nat.lt_succ_of_lt Bol)
  have hv2 := fresh_lo hfs hv (by first | exact hw.size | exact Nat.le_succ_of_le hw.size)
  replace hw := hw.trans (hfr.below (foot_lo hsb hv) hw.size)
  have S := S2
  clear S2 hfr hfs
  rw [num_rem.1]
  rw [num_rem.2] at S
  replace hv := hv2
  clear hv2
  obtain ⟨xa, ya, za, va⟩ := Ba.facts
  obtain ⟨xb, yb, zb, vb⟩ := Bb.facts
  obtain ⟨xw, yw, zw, vw⟩ := Bw.facts
  obtain ⟨xx, yx, zx, vx⟩ := Bx.facts
  obtain ⟨xo, yo, zo, vo⟩ := Bo.facts
  go_wp2_with fail
  obtain ⟨a1, cc1, hvf1, R1⟩ := S.rd
  have cq := clash_any sb a1 cc1 0 [] pB pA w14 R1
  rw [num_clash] at cq
  clear R1 hvf1
  refine (cq).mono ?_
  rintro e w15 ⟨rfl, hb⟩
  clear xa ya za va xb yb zb vb xw yw zw vw xx yx zx vx xo yo zo vo
  replace Ba := Ba.ext hb rfl
  replace Bb := Bb.ext hb rfl
  replace Bw := Bw.ext hb rfl
  replace Bx := Bx.ext hb rfl
  replace Bo := Bo.ext hb rfl
  replace S := S.ext hb rfl
  replace hw := hw.trans (hb.mono hw.size)
  clear hb
  obtain ⟨xa, ya, za, va⟩ := Ba.facts
  obtain ⟨xb, yb, zb, vb⟩ := Bb.facts
  obtain ⟨xw, yw, zw, vw⟩ := Bw.facts
  obtain ⟨xx, yx, zx, vx⟩ := Bx.facts
  obtain ⟨xo, yo, zo, vo⟩ := Bo.facts
  go_wp2_with fail
  obtain ⟨a2, cc2, hvf2, R2⟩ := S.rd
  have cl := len_any sb a2 cc2 0 [] w15 R2
  clear R2 hvf2
  refine (cl).mono ?_
  rintro e w16 ⟨rfl, hb⟩
  clear xa ya za va xb yb zb vb xw yw zw vw xx yx zx vx xo yo zo vo
  replace Ba := Ba.ext hb rfl
  replace Bb := Bb.ext hb rfl
  replace Bw := Bw.ext hb rfl
  replace Bx := Bx.ext hb rfl
  replace Bo := Bo.ext hb rfl
  replace S := S.ext hb rfl
  replace hw := hw.trans (hb.mono hw.size)
  clear hb
  obtain ⟨xa, ya, za, va⟩ := Ba.facts
  obtain ⟨xb, yb, zb, vb⟩ := Bb.facts
  obtain ⟨xw, yw, zw, vw⟩ := Bw.facts
  obtain ⟨xx, yx, zx, vx⟩ := Bx.facts
  obtain ⟨xo, yo, zo, vo⟩ := Bo.facts
  go_wp2_with fail
  refine (rem_any sb v3 [] pA pB _ S).mono ?_
  rintro e w17 ⟨v4, rfl, S2, hfr, hfs⟩
  clear xa ya za va xb yb zb vb xw yw zw vw xx yx zx vx xo yo zo vo
  have Bal := Ba.lt
  have Bbl := Bb.lt
  have Bwl := Bw.lt
  have Bxl := Bx.lt
  have Bol := Bo.lt
  replace Ba := hfr.box Ba nFa
  replace Bb := hfr.box Bb nFb
  replace Bw := hfr.box Bw nFw
  replace Bx := hfr.box Bx nFx
  replace Bo := hfr.box Bo nFo
  replace nFa := foot_fresh hfs nFa (by first | exact Bal | exact Nat.lt_succ_of_lt Bal)
  replace nFb := foot_fresh hfs nFb (by first | exact Bbl | exact Nat.lt_succ_of_lt Bbl)
  replace nFw := foot_fresh hfs nFw (by first | exact Bwl | exact Nat.lt_succ_of_lt Bwl)
  replace nFx := foot_fresh hfs nFx (by first | exact Bxl | exact Nat.lt_succ_of_lt Bxl)
  replace nFo := foot_fresh hfs nFo (by first | exact Bol | exact Nat.lt_succ_of_lt Bol)
  have hv2 := fresh_lo hfs hv (by first | exact hw.size | exact Nat.le_succ_of_le hw.size)
  replace hw := hw.trans (hfr.below (foot_lo hsb hv) hw.size)
  have S := S2
  clear S2 hfr hfs
  rw [num_rem0.1]
  rw [num_rem0.2] at S
  replace hv := hv2
  clear hv2
  obtain ⟨xa, ya, za, va⟩ := Ba.facts
  obtain ⟨xb, yb, zb, vb⟩ := Bb.facts
  obtain ⟨xw, yw, zw, vw⟩ := Bw.facts
  obtain ⟨xx, yx, zx, vx⟩ := Bx.facts
  obtain ⟨xo, yo, zo, vo⟩ := Bo.facts
  go_wp2_with fail
  refine (kind_nil pA pB _).mono ?_
  rintro e w18 ⟨rfl, hb⟩
  clear xa ya za va xb yb zb vb xw yw zw vw xx yx zx vx xo yo zo vo
  replace Ba := Ba.ext hb rfl
  replace Bb := Bb.ext hb rfl
  replace Bw := Bw.ext hb rfl
  replace Bx := Bx.ext hb rfl
  replace Bo := Bo.ext hb rfl
  replace S := S.ext hb rfl
  replace hw := hw.trans (hb.mono hw.size)
  clear hb
  obtain ⟨xa, ya, za, va⟩ := Ba.facts
  obtain ⟨xb, yb, zb, vb⟩ := Bb.facts
  obtain ⟨xw, yw, zw, vw⟩ := Bw.facts
  obtain ⟨xx, yx, zx, vx⟩ := Bx.facts
  obtain ⟨xo, yo, zo, vo⟩ := Bo.facts
  go_wp2_with fail
  refine (add_nil wAB (good_unm num_good) _).mono ?_
  rintro e w19 ⟨rfl, hb⟩
  clear xa ya za va xb yb zb vb xw yw zw vw xx yx zx vx xo yo zo vo
  replace Ba := Ba.ext hb rfl
  replace Bb := Bb.ext hb rfl
  replace Bw := Bw.ext hb rfl
  replace Bx := Bx.ext hb rfl
  replace Bo := Bo.ext hb rfl
  replace S := S.ext hb rfl
  replace hw := hw.trans (hb.mono hw.size)
  clear hb
  obtain ⟨xa, ya, za, va⟩ := Ba.facts
  obtain ⟨xb, yb, zb, vb⟩ := Bb.facts
  obtain ⟨xw, yw, zw, vw⟩ := Bw.facts
  obtain ⟨xx, yx, zx, vx⟩ := Bx.facts
  obtain ⟨xo, yo, zo, vo⟩ := Bo.facts
  go_wp2_with fail
  have cm := cmpW_any wAB wAB
  rw [num_cmp] at cm
  refine (cm _).mono ?_
  rintro e w20 ⟨rfl, hb⟩
  clear xa ya za va xb yb zb vb xw yw zw vw xx yx zx vx xo yo zo vo
  replace Ba := Ba.ext hb rfl
  replace Bb := Bb.ext hb rfl
  replace Bw := Bw.ext hb rfl
  replace Bx := Bx.ext hb rfl
  replace Bo := Bo.ext hb rfl
  replace S := S.ext hb rfl
  replace hw := hw.trans (hb.mono hw.size)
  clear hb
  obtain ⟨xa, ya, za, va⟩ := Ba.facts
  obtain ⟨xb, yb, zb, vb⟩ := Bb.facts
  obtain ⟨xw, yw, zw, vw⟩ := Bw.facts
  obtain ⟨xx, yx, zx, vx⟩ := Bx.facts
  obtain ⟨xo, yo, zo, vo⟩ := Bo.facts
  go_wp2
  go_ret
  exact ⟨rfl, hw⟩

end Go.Proofs.Ytnocdecimcpkfaa

namespace Go.Proofs.Ytnocdecimcpkfaa
open Go.RowKit Go.Sort Go.Lib Go.ChangeShapes Go.WideShapes Go.ChangeAt

theorem apart_iff {L : List Wl} (h : Apart L) {i j : Nat} (hi : i < L.length) (hj : j < L.length) (hij : i ≠ j) : meetS L[i].A L[i].B L[j].A L[j].B = 0 := by
  unfold Apart at h
  rw [List.pairwise_iff_getElem] at h
  rcases Nat.lt_or_gt_of_ne hij with h1 | h1
  · exact h i j hi hj h1
  · rw [← meet_sw3]; exact h j i hj hi h1
/-- Of a set, the wall between two of its own ends is itself. -/
theorem kind_own {L : List Wl} (h : Apart L) (hg : ∀ x ∈ L, GoodW x) {x : Wl} (hx : x ∈ L) : kindW L x.A x.B = x.K := by
  unfold kindW
  cases hf : L.find? (isW x.A x.B) with
  | none =>
    have := List.find?_eq_none.1 hf x hx
    exact absurd (isW_iff.2 ⟨rfl, rfl⟩) this
  | some y =>
    have hy := List.mem_of_find?_eq_some hf
    have e := isW_iff.1 (List.find?_some hf)
    obtain ⟨i, hi, rfl⟩ := List.mem_iff_getElem.1 hx
    obtain ⟨j, hj, rfl⟩ := List.mem_iff_getElem.1 hy
    by_cases hij : i = j
    · subst hij; rfl
    · exfalso
      have := apart_iff h hj hi (Ne.symm hij)
      rw [e.1, e.2] at this
      exact meet_self1 (hg _ (List.getElem_mem hi)) this
theorem add_zero {L : List Wl} {X : Wl} (h : addE L X = 0) : unm X = false ∧ clashW L X.A X.B = 0 := by
  unfold addE at h
  cases hu : unm X with
  | true => rw [hu, if_pos rfl] at h; cases h
  | false => rw [hu, if_neg (by simp)] at h; exact ⟨rfl, h⟩
theorem addL_mem {L : List Wl} {X x : Wl} (h : addE L X = 0) : x ∈ addL L X ↔ x = X ∨ x ∈ L := by
  unfold addL
  rw [if_pos (add_zero h)]
  exact ins_mem
theorem addL_len {L : List Wl} {X : Wl} (h : addE L X = 0) : (addL L X).length = L.length + 1 := by
  unfold addL
  rw [if_pos (add_zero h)]
  simp only [List.length_append, List.length_cons, List.length_take, List.length_drop]; omega
theorem addL_no {L : List Wl} {X : Wl} (h : ¬ addE L X = 0) : addL L X = L := by
  unfold addL
  rw [if_neg]
  rintro ⟨h1, h2⟩
  exact h (by unfold addE; rw [h1, if_neg (by simp)]; exact h2)
/-- What has just been added is there. -/
theorem add_have {L : List Wl} {X : Wl} (hg : ∀ x ∈ L, GoodW x) (h : Apart L) (he : addE L X = 0) : clashW (addL L X) X.A X.B = 5 := by
  obtain ⟨hu, hz⟩ := add_zero he
  have hX := mkOk_good hu
  obtain ⟨hA, hB⟩ := good_lo hX
  have hm := kind_own (apart_add (X := X) hg h) (fun x hx => by
    rcases (addL_mem he).1 hx with rfl | hx
    · exact hX
    · exact hg x hx) ((addL_mem he).2 (.inl rfl))
  have hk : mkOk X.A X.B 1 = true := by
    have hab : X.A ≠ X.B := fun e => by have := hX.ab; rw [e, cmpP_eq0.2 rfl] at this; omega
    unfold mkOk mkK; simp [hX.va, hX.vb, hab]
  unfold clashW
  rw [hA, hB, if_pos hk, hm, if_neg (by have := hX.k; omega)]
/-- A set's walls make a set. -/
theorem set_new {L : List Wl} (hr : Ris L) (h : Apart L) (hg : ∀ x ∈ L, GoodW x) : srt cmpW L = L ∧ L.any unm = false ∧ (¬ ∃ (i : Nat) (h : i + 1 < L.length), adjB L[i] L[i + 1] = true) ∧ ¬ ∃ (k : Nat) (h : k < L.length), hitB (L.take k) L[k] = true := by
  refine ⟨(wholeW.srt_eq (List.Perm.refl L) (hr.imp fun h => by omega)).symm, ?_, ?_, ?_⟩
  · rw [List.any_eq_false]
    intro x hx
    rw [good_unm (hg x hx)]; simp
  · rintro ⟨i, hi, e⟩
    unfold adjB at e
    simp only [Bool.and_eq_true, decide_eq_true_eq] at e
    have := apart_iff h (show i < L.length by omega) hi (by omega)
    rw [e.1, e.2] at this
    exact meet_self1 (hg _ (List.getElem_mem hi)) this
  · rintro ⟨k, hk, e⟩
    unfold hitB at e
    rw [List.any_eq_true] at e
    obtain ⟨y, hy, hb⟩ := e
    have hy2 : y ∈ L.take k := by
      have := List.mem_filter.1 hy
      have sub : ∀ (M o : List Wl) (z : Wl), z ∈ M.foldl (fun o x => o.filter (fun y => !gone x y) ++ [x]) o → z ∈ o ∨ z ∈ M := by
        intro M
        induction M with
        | nil => intro o z hz; exact .inl hz
        | cons x M ih =>
          intro o z hz
          rcases ih _ z hz with h1 | h1
          · rcases List.mem_append.1 h1 with h1 | h1
            · exact .inl (List.mem_filter.1 h1).1
            · exact .inr (List.mem_cons.2 (.inl (by simpa using h1)))
          · exact .inr (List.mem_cons.2 (.inr h1))
      rcases sub (L.take k) [] y this.1 with h1 | h1
      · cases h1
      · exact h1
    obtain ⟨j, hj, rfl⟩ := List.mem_take_iff_getElem.1 hy2
    unfold bar1 at hb
    simp only [Bool.and_eq_true, decide_eq_true_eq] at hb
    exact hb.2 (apart_iff h (by omega) hk (by omega))
/-- A new set of none. -/
theorem new_none (w : World) : Calls Try.prog 8 #[.slice none 0 0] w fun e w' => ∃ sb v, e = .returned (.tuple #[.pointer (some ⟨sb, 0, none⟩), .int .i64 0]) ∧ SetAt w' sb v [] ∧ w.heap.size ≤ sb ∧ (∀ g, v.ownBlock = some g → w.heap.size ≤ g) ∧ Below w.heap.size w w' := by
  have hs : srt cmpW ([] : List Wl) = [] := by simp [srt]
  refine (new_ok none 0 [] (by simp) (fun _ h => by cases h) (fun _ => rfl) [] hs false rfl (iff_no fun ⟨i, h, _⟩ => by simp at h) false rfl (iff_no fun ⟨k, h, _⟩ => by simp at h) rfl w RowAt.nil).mono ?_
  rintro e w' ⟨sb, v, rfl, h1, h2, h3, h4, h5⟩
  exact ⟨sb, v, rfl, ⟨h1, h2.base (Nat.zero_le _), h4, by simp, by simp [Ris, Rising], by simp⟩, h3, fun g e => (h2.lt g e).1, h5⟩
/-- A set of a set's walls. -/
theorem new_set {a : Option Addr} {c : Nat} {L : List Wl} (hL : L.length < 1000000) (hf : Flat a) (hz : a = none → L = []) (hr : Ris L) (h : Apart L) (hg : ∀ x ∈ L, GoodW x) (w : World) (hrow : RowAt cW 5 w a L) :
    Calls Try.prog 8 #[.slice a L.length c] w fun e w' => ∃ sb v, e = .returned (.tuple #[.pointer (some ⟨sb, 0, none⟩), .int .i64 0]) ∧ SetAt w' sb v L ∧ w.heap.size ≤ sb ∧ (∀ g, v.ownBlock = some g → w.heap.size ≤ g) ∧ Below w.heap.size w w' := by
  obtain ⟨h1, h2, h3, h4⟩ := set_new hr h hg
  refine (new_ok a c L hL hf hz L h1 false rfl (iff_no h3) false rfl (iff_no h4) h2 w hrow).mono ?_
  rintro e w' ⟨sb, v, rfl, h1, h2, h3, h4, h5⟩
  exact ⟨sb, v, rfl, ⟨h1, h2.base (Nat.zero_le _), h4, by omega, hr, hg⟩, h3, fun g e => (h2.lt g e).1, h5⟩
end Go.Proofs.Ytnocdecimcpkfaa

namespace Go.Proofs.Ytnocdecimcpkfaa

theorem good_mk {X : Wl} (hX : GoodW X) : mkOk X.A X.B 1 = true := by
  have hab : X.A ≠ X.B := fun e => by have := hX.ab; rw [e, cmpP_eq0.2 rfl] at this; omega
  unfold mkOk mkK; simp [hX.va, hX.vb, hab]
theorem clash_ok {L : List Wl} {X : Wl} (hX : GoodW X) (hm : ∀ x ∈ L, meetS x.A x.B X.A X.B = 0) : clashW L X.A X.B = 0 := by
  obtain ⟨hA, hB⟩ := good_lo hX
  unfold clashW
  rw [hA, hB, if_pos (good_mk hX)]
  have hk : kindW L X.A X.B = 0 := by
    unfold kindW
    cases hf : L.find? (isW X.A X.B) with
    | none => rfl
    | some y =>
      exfalso
      have hy := List.mem_of_find?_eq_some hf
      have e := isW_iff.1 (List.find?_some hf)
      have := hm y hy
      rw [e.1, e.2] at this
      exact meet_self1 hX this
  rw [if_pos hk, if_neg]
  intro h
  rw [List.any_eq_true] at h
  obtain ⟨x, hx, hb⟩ := h
  unfold bar1 at hb
  simp only [Bool.and_eq_true, decide_eq_true_eq] at hb
  exact hb.2 (hm x (List.mem_filter.1 hx).1)
theorem add_ok_of {L : List Wl} {X : Wl} (hX : GoodW X) (hm : ∀ x ∈ L, meetS x.A x.B X.A X.B = 0) : addE L X = 0 := by
  unfold addE
  rw [good_unm hX, if_neg (by simp)]
  exact clash_ok hX hm
theorem addL_perm {L : List Wl} {X : Wl} (h : addE L X = 0) : (addL L X).Perm (X :: L) := by
  unfold addL
  rw [if_pos (add_zero h)]
  have := List.perm_middle (a := X) (l₁ := L.take (posW L X.A X.B)) (l₂ := L.drop (posW L X.A X.B))
  rwa [List.take_append_drop] at this
theorem perm_eq {L M : List Wl} (hL : Ris L) (hM : Ris M) (hp : L.Perm M) : L = M := rising_unique wholeW hL hM (fun _ => hp.mem_iff)
theorem apart_perm {L M : List Wl} (hp : L.Perm M) (h : Apart L) : Apart M := (hp.pairwise_iff (fun {x y} e => by rw [← meet_sw3]; exact e)).1 h
theorem pos_own {L : List Wl} (hr : Ris L) (h : Apart L) (hg : ∀ x ∈ L, GoodW x) {k : Nat} (hk : k < L.length) : remE L L[k].A L[k].B = 0 ∧ remL L L[k].A L[k].B = L.take k ++ L.drop (k + 1) := by
  have hK : ∀ x ∈ L, 0 < x.K := fun x hx => by have := (hg x hx).k; omega
  cases hf : fnd L (posW L L[k].A L[k].B) L[k].A L[k].B with
  | false =>
    have := List.find?_eq_none.1 (fnd_false hr hf hK) _ (List.getElem_mem hk)
    exact absurd (isW_iff.2 ⟨rfl, rfl⟩) this
  | true =>
    obtain ⟨hm, _, e1, e2⟩ := fnd_true hr hf hK
    have hp : posW L L[k].A L[k].B = k := by
      by_cases e : posW L L[k].A L[k].B = k
      · exact e
      · exfalso
        have := apart_iff h hm hk e
        rw [e1, e2] at this
        exact meet_self1 (hg _ (List.getElem_mem hk)) this
    unfold remE remL
    rw [hf, if_pos rfl, if_pos rfl, hp]
    exact ⟨rfl, rfl⟩
/-- One more that meets none of those that are there, from the back of a list. -/
theorem back_add {I T : List Wl} (h : Apart I) (hg : ∀ x ∈ I, GoodW x) {i : Nat} (hi : i < I.length) (hT : T.Perm (I.drop (i + 1))) : addE T I[i] = 0 ∧ (addL T I[i]).Perm (I.drop i) := by
  have he : addE T I[i] = 0 := add_ok_of (hg _ (List.getElem_mem hi)) (fun x hx => by
    have hx2 := hT.mem_iff.1 hx
    obtain ⟨j, hj, rfl⟩ := List.mem_drop_iff_getElem.1 hx2
    exact apart_iff h (by omega) hi (by omega))
  refine ⟨he, (addL_perm he).trans ?_⟩
  rw [← List.getElem_cons_drop hi]
  exact hT.cons _
end Go.Proofs.Ytnocdecimcpkfaa
