/- Put together: WalG, WalI. -/
import Derived.Test.YtnocdecimcpkfaaRows
import Derived.Test.YtnocdecimcpkfaaPut18
import Derived.Test.YtnocdecimcpkfaaPut1
import Derived.WalkKit
import Derived.WalkSpells
import Derived.WalkLawsBesides
import Derived.Laws.Externs
import Derived.Deep.QuietTactic
import Derived.BigQuiet
import Derived.Lib.Hide
import Derived.Handy
import Derived.OwnWalk
import Derived.LoopN
import Derived.RegionTactic
import Derived.Shelf.Spec.SlicesInsert
import Derived.Lib.AppendZerosOnto
import Derived.Shelf.RegionOpenPlain
namespace Go.Proofs.Ytnocdecimcpkfaa
open Go.RowKit Go.Sort
attribute [local go_sem] rOper rAt rUpon cell_set sg_i64 sg_u64 alloc_cell alloc_frozen
attribute [local go_sem 10000] pt_eql pt_neq wal_eql wal_neq
attribute [local irreducible] rWalk

theorem cW_ex (X : Wl) : cW X = [.int .i64 X.A.x, .int .i64 X.A.y, .int .i64 X.B.x, .int .i64 X.B.y, .int .i64 X.K] := rfl
theorem Box.grownBy {w w' : World} {b : Nat} {cs : List Value} {T : TypeId} {row : Option Nat} (h : Box w b cs T) (hg : w.grownBy w' row) (hne : some b ≠ row) : Box w' b cs T := by
  have hl := h.lt
  unfold Box at *
  rw [hg.block b hl hne]; exact h
theorem WRow.ne {w : World} {B : Nat} {v : Value} {L : List Wl} (h : WRow w (B + 1) v L) : v.ownBlock ≠ some B := fun e => by have := (h.lt _ e).1; omega
theorem WRow.alloc {w : World} {B : Nat} {v : Value} {L : List Wl} (h : WRow w B v L) (o : Obj) : WRow (w.alloc o) B v L := World.ownsRow.alloc h o
set_option maxHeartbeats 1000000 in
theorem at_any (sb : Nat) (a0 : Option Addr) (c n : Nat) (L : List Wl) (p : Pt) (w : World) (S : SetRd w sb a0 c n L) :
    Calls Try.prog 23 #[.pointer (some ⟨sb, 0, none⟩), .agg #[.int .i64 p.x, .int .i64 p.y]] w fun e w' => ∃ v', e = .returned v' ∧ WRow w' w.heap.size v' ((bgL L p).filter (endW p)) ∧ Below w.heap.size w w' := by
  have hsb := S.box.lt
  obtain ⟨_, hb2, hb3⟩ := bg_spec S.ris p
  have hLb : (bgL L p).length ≤ 1000000 := Nat.le_trans hb2 S.le
  have hR : ∀ W, Below w.heap.size w W → RowAt cW 5 W a0 (bgL L p) := fun W hW => by rw [← hb3]; exact (S.row.ext hW rfl).take _
  have cb : ∀ W, Below w.heap.size w W → Calls Try.prog 44 #[.pointer (some ⟨sb, 0, none⟩), .agg #[.int .i64 p.x, .int .i64 p.y]] W fun e w' => e = .returned (.slice a0 (bgL L p).length c) ∧ Below W.heap.size W w' := fun W hW => begun_any sb a0 c n L p W (S.ext hW rfl)
  clear hb2 hb3
  generalize bgL L p = L2 at *
  obtain ⟨m, hm⟩ : ∃ m, L2.length = m := ⟨_, rfl⟩
  rw [hm] at cb hLb
  have HM := Lib.hid hm
  clear S hm
  go_enter Try.func23, Try.ntmps23
  go_wp2_with fail
  refine at_call fun W1 hW => ?_
  have BP : Box W1 w.heap.size [.int .i64 p.x, .int .i64 p.y] 33 := by rw [hW]; exact Box.new rfl
  have hw : Below w.heap.size w W1 := by rw [hW]; go_grown
  clear hW
  refine (cb W1 hw).mono ?_
  rintro e w1 ⟨rfl, hb⟩
  replace BP := BP.ext hb rfl
  replace hw := hw.trans (hb.mono hw.size)
  clear hb cb
  go_wp2_with fail
  go_loopw [5, 7, 12] (fun vl _ vi wr => ∃ k : Nat, k ≤ m ∧ vi = .int .i64 k ∧ WRow wr (w.heap.size + 1) vl ((L2.take k).filter (endW p)) ∧ Below w.heap.size w wr ∧ Box wr w.heap.size [.int .i64 p.x, .int .i64 p.y] 33) (fun _ _ vi _ => m - (intOf vi).toNat)
  case atStart => exact ⟨0, Nat.zero_le _, rfl, WRow.nil0 _ _, hw, BP⟩
  case round =>
    clear BP hw
    obtain ⟨k, hk, rfl, hown, hwr, BP⟩ := hrel
    by_cases hlt : k < m
    · have hkL : k < L2.length := by rw [HM.out]; exact hlt
      obtain ⟨ad, A, ea, eA, hA⟩ := (hR wr hwr).five (j := k) hkL
      have HT : Hid (L2.take (k + 1) = L2.take k ++ [L2[k]]) := Lib.hid (List.take_succ_eq_append_getElem hkL)
      have hle : ((L2.take k).filter (endW p)).length ≤ 1000000 := Nat.le_trans (List.length_filter_le _ _) (by rw [List.length_take]; omega)
      generalize L2[k] = X at *
      obtain ⟨u0, u1, u2, u3, u4, u5⟩ := hA.facts
      obtain ⟨y0, y1, y2, y3⟩ := BP.facts
      subst ea
      cases e1 : peqI X.A.x X.A.y p.x p.y with
      | true =>
        have HE : Hid (endW p X = true) := Lib.hid (by rw [endW_eq, e1]; rfl)
        have HF := Lib.hid (show (L2.take (k + 1)).filter (endW p) = (L2.take k).filter (endW p) ++ [X] by rw [HT.out, List.filter_append, List.filter_cons_of_pos HE.out]; rfl)
        have HO := Lib.hid hwr
        have HB := Lib.hid (show w.heap.size + 1 ≤ wr.heap.size from BP.lt)
        have hlt0 := fun q hq => (hown.lt q hq).1
        have HN := Lib.hid hown.ne
        have HP := Lib.hid BP
        have e3 := cW_ex X
        clear HE HT BP hwr
        go_wp2_with (at_builtin; refine append_wl rfl _ _ rfl (w.heap.size + 1) _ ((L2.take k).filter (endW p)) rfl ((hown.alloc _).alloc _) (wr.heap.size + 1) X rfl (Box.new (by simp)) hle (by have := HB.out; simp; omega) ?_; intro w4 v4 hown4 hg4 hn4)
        have BP4 := ((HP.out.old _).old _).grownBy hg4 (fun e => HN.out e.symm)
        have hb1 : w.heap.size ≤ wr.heap.size := by have := HB.out; omega
        have hw4 := ((HO.out.alloc hb1 (.cells #[.int .i64 X.A.x, .int .i64 X.A.y, .int .i64 X.B.x, .int .i64 X.B.y, .int .i64 X.K] 35)).alloc (by simp; omega) (.cells #[.int .i64 X.A.x, .int .i64 X.A.y, .int .i64 X.B.x, .int .i64 X.B.y, .int .i64 X.K] 35)).grown hg4 (by simp; omega) (fun q hq => by have := hlt0 q hq; omega)
        clear hg4 hlt0 y0 y1 y2 y3 u0 u1 u2 u3 u4 u5 hA
        go_wp2
        go_roundw
        case rel => exact ⟨k + 1, hlt, by go_num, by rw [HF.out]; exact hown4, hw4, BP4⟩
        case measure => simp [intOf]; omega
      | false =>
        cases e2 : peqI X.B.x X.B.y p.x p.y with
        | true =>
          have HE : Hid (endW p X = true) := Lib.hid (by rw [endW_eq, e1, e2]; rfl)
          have HF := Lib.hid (show (L2.take (k + 1)).filter (endW p) = (L2.take k).filter (endW p) ++ [X] by rw [HT.out, List.filter_append, List.filter_cons_of_pos HE.out]; rfl)
          have HO := Lib.hid hwr
          have HB := Lib.hid (show w.heap.size + 1 ≤ wr.heap.size from BP.lt)
          have hlt0 := fun q hq => (hown.lt q hq).1
          have HN := Lib.hid hown.ne
          have HP := Lib.hid BP
          have e3 := cW_ex X
          clear HE HT BP hwr
          go_wp2_with (at_builtin; refine append_wl rfl _ _ rfl (w.heap.size + 1) _ ((L2.take k).filter (endW p)) rfl ((hown.alloc _).alloc _) (wr.heap.size + 1) X rfl (Box.new (by simp)) hle (by have := HB.out; simp; omega) ?_; intro w4 v4 hown4 hg4 hn4)
          have BP4 := ((HP.out.old _).old _).grownBy hg4 (fun e => HN.out e.symm)
          have hb1 : w.heap.size ≤ wr.heap.size := by have := HB.out; omega
          have hw4 := ((HO.out.alloc hb1 (.cells #[.int .i64 X.A.x, .int .i64 X.A.y, .int .i64 X.B.x, .int .i64 X.B.y, .int .i64 X.K] 35)).alloc (by simp; omega) (.cells #[.int .i64 X.A.x, .int .i64 X.A.y, .int .i64 X.B.x, .int .i64 X.B.y, .int .i64 X.K] 35)).grown hg4 (by simp; omega) (fun q hq => by have := hlt0 q hq; omega)
          clear hg4 hlt0 y0 y1 y2 y3 u0 u1 u2 u3 u4 u5 hA
          go_wp2
          go_roundw
          case rel => exact ⟨k + 1, hlt, by go_num, by rw [HF.out]; exact hown4, hw4, BP4⟩
          case measure => simp [intOf]; omega
        | false =>
          have HE : Hid (¬ endW p X = true) := Lib.hid (by rw [endW_eq, e1, e2]; simp)
          have hf : Hid ((L2.take (k + 1)).filter (endW p) = (L2.take k).filter (endW p)) := Lib.hid (by rw [HT.out, List.filter_append, List.filter_cons_of_neg HE.out]; simp)
          have HP := Lib.hid BP
          clear HE HT BP
          go_wp2
          go_roundw
          case rel => exact ⟨k + 1, hlt, by go_num, by rw [hf.out]; exact hown.alloc _, by have hl := hwr.size; go_grown, HP.out.old _⟩
          case measure => simp [intOf]; omega
    · obtain rfl : k = m := by omega
      have hT : (L2.take k).filter (endW p) = L2.filter (endW p) := by rw [List.take_of_length_le (by rw [HM.out]; omega)]
      rw [hT] at hown
      go_wp2
      go_ret
      exact ⟨_, rfl, hown.base (Nat.le_succ _), hwr⟩
def onW (p : Pt) (x : Wl) : Bool := !decide (x.A = p) && (!decide (x.B = p) && (!bsd x p p && onS p x.A x.B))
theorem onW_eq (p : Pt) (x : Wl) : onW p x = (!peqI x.A.x x.A.y p.x p.y && (!peqI x.B.x x.B.y p.x p.y && (!bsd x p p && onS p x.A x.B))) := by rw [peqI_dec, peqI_dec]; rfl
def onV (o : Option Wl) : Value := match o with | some x => .tuple #[.agg #[.int .i64 x.A.x, .int .i64 x.A.y, .int .i64 x.B.x, .int .i64 x.B.y, .int .i64 x.K], .bool true] | none => .tuple #[.agg #[.int .i64 0, .int .i64 0, .int .i64 0, .int .i64 0, .int .i64 0], .bool false]
set_option maxHeartbeats 2000000 in
theorem on_set_any (sb : Nat) (a0 : Option Addr) (c n : Nat) (L : List Wl) (p : Pt) (w : World) (S : SetRd w sb a0 c n L) :
    Calls Try.prog 14 #[.pointer (some ⟨sb, 0, none⟩), .agg #[.int .i64 p.x, .int .i64 p.y]] w fun e w' => e = .returned (onV ((bgL L p).find? (onW p))) ∧ Below w.heap.size w w' := by
  have hsb := S.box.lt
  obtain ⟨_, hb2, hb3⟩ := bg_spec S.ris p
  have hLb : (bgL L p).length ≤ 1000000 := Nat.le_trans hb2 S.le
  have hR : ∀ W, Below w.heap.size w W → RowAt cW 5 W a0 (bgL L p) := fun W hW => by rw [← hb3]; exact (S.row.ext hW rfl).take _
  have cb : ∀ W, Below w.heap.size w W → Calls Try.prog 44 #[.pointer (some ⟨sb, 0, none⟩), .agg #[.int .i64 p.x, .int .i64 p.y]] W fun e w' => e = .returned (.slice a0 (bgL L p).length c) ∧ Below W.heap.size W w' := fun W hW => begun_any sb a0 c n L p W (S.ext hW rfl)
  clear hb2 hb3
  generalize bgL L p = L2 at *
  obtain ⟨m, hm⟩ : ∃ m, L2.length = m := ⟨_, rfl⟩
  rw [hm] at cb hLb
  have HM := Lib.hid hm
  clear S hm
  go_enter Try.func14, Try.ntmps14
  go_wp2_with fail
  refine at_call fun W1 hW => ?_
  have BP : Box W1 w.heap.size [.int .i64 p.x, .int .i64 p.y] 33 := by rw [hW]; exact (Box.new rfl).old _
  have BR : Box W1 (w.heap.size + 1) [.int .i64 0, .int .i64 0, .int .i64 0, .int .i64 0, .int .i64 0] 35 := by rw [hW]; exact Box.new (by simp)
  have hw : Below w.heap.size w W1 := by rw [hW]; go_grown
  clear hW
  refine (cb W1 hw).mono ?_
  rintro e w1 ⟨rfl, hb⟩
  replace BP := BP.ext hb rfl
  replace BR := BR.ext hb rfl
  replace hw := hw.trans (hb.mono hw.size)
  clear hb cb
  go_wp2_with fail
  go_loopw [7, 12] (fun _ vi wr => ∃ k : Nat, k ≤ m ∧ vi = .int .i64 k ∧ Hid ((L2.take k).find? (onW p) = none) ∧ Below w.heap.size w wr ∧ Box wr w.heap.size [.int .i64 p.x, .int .i64 p.y] 33 ∧ Box wr (w.heap.size + 1) [.int .i64 0, .int .i64 0, .int .i64 0, .int .i64 0, .int .i64 0] 35) (fun _ vi _ => m - (intOf vi).toNat)
  case atStart => exact ⟨0, Nat.zero_le _, rfl, Lib.hid rfl, hw, BP, BR⟩
  case round =>
    clear BP BR hw
    obtain ⟨k, hk, rfl, HI, hwr, BP, BR⟩ := hrel
    by_cases hlt : k < m
    · have hkL : k < L2.length := by rw [HM.out]; exact hlt
      obtain ⟨ad, A, ea, eA, hA⟩ := (hR wr hwr).five (j := k) hkL
      have HT : Hid (L2.take (k + 1) = L2.take k ++ [L2[k]]) := Lib.hid (List.take_succ_eq_append_getElem hkL)
      generalize L2[k] = X at *
      obtain ⟨u0, u1, u2, u3, u4, u5⟩ := hA.facts
      obtain ⟨y0, y1, y2, y3⟩ := BP.facts
      obtain ⟨z0, z1, z2, z3⟩ := BR.facts
      subst ea
      have c1 := bsd_any X p p
      have c2 := on_any p X.A X.B
      cases e1 : peqI X.A.x X.A.y p.x p.y with
      | true =>
        have HE : Hid (onW p X = false) := Lib.hid (by rw [onW_eq, e1]; rfl)
        have HF : Hid ((L2.take (k + 1)).find? (onW p) = none) := Lib.hid (by rw [HT.out, List.find?_append, HI.out, List.find?_cons_of_neg (by rw [HE.out]; simp)]; rfl)
        clear HE HT HI
        have HP := Lib.hid BP
        have HR := Lib.hid BR
        clear BP BR
        go_wp2
        go_roundw
        case rel => exact ⟨k + 1, hlt, by go_num, HF, by have hl := hwr.size; go_grown, HP.out.old _, HR.out.old _⟩
        case measure => simp [intOf]; omega
      | false =>
        cases e2 : peqI X.B.x X.B.y p.x p.y with
        | true =>
          have HE : Hid (onW p X = false) := Lib.hid (by rw [onW_eq, e1, e2]; rfl)
          have HF : Hid ((L2.take (k + 1)).find? (onW p) = none) := Lib.hid (by rw [HT.out, List.find?_append, HI.out, List.find?_cons_of_neg (by rw [HE.out]; simp)]; rfl)
          clear HE HT HI
          have HP := Lib.hid BP
          have HR := Lib.hid BR
          clear BP BR
          go_wp2
          go_roundw
          case rel => exact ⟨k + 1, hlt, by go_num, HF, by have hl := hwr.size; go_grown, HP.out.old _, HR.out.old _⟩
          case measure => simp [intOf]; omega
        | false =>
          cases e3 : bsd X p p with
          | true =>
            have HE : Hid (onW p X = false) := Lib.hid (by rw [onW_eq, e1, e2, e3]; rfl)
            rw [e3] at c1
            clear e3
            have HF : Hid ((L2.take (k + 1)).find? (onW p) = none) := Lib.hid (by rw [HT.out, List.find?_append, HI.out, List.find?_cons_of_neg (by rw [HE.out]; simp)]; rfl)
            clear HE HT HI
            have HP := Lib.hid BP
            have HR := Lib.hid BR
            have HW := Lib.hid hwr
            go_wp2_with fail
            refine at_call fun W2 hW => ?_
            have BP2 : Box W2 w.heap.size [.int .i64 p.x, .int .i64 p.y] 33 := by rw [hW]; exact HP.out.old _
            have BR2 : Box W2 (w.heap.size + 1) [.int .i64 0, .int .i64 0, .int .i64 0, .int .i64 0, .int .i64 0] 35 := by rw [hW]; exact HR.out.old _
            have BX2 : Box W2 wr.heap.size [.int .i64 X.A.x, .int .i64 X.A.y, .int .i64 X.B.x, .int .i64 X.B.y, .int .i64 X.K] 35 := by rw [hW]; exact Box.new rfl
            have hw2 : Below w.heap.size w W2 := by have hl := hwr.size; rw [hW]; go_grown
            clear hW BP BR hwr y0 y1 y2 y3 z0 z1 z2 z3 u0 u1 u2 u3 u4 u5 hA
            refine (c1 W2).mono ?_
            rintro e w3 ⟨rfl, hb⟩
            have l1 : w.heap.size + 1 < wr.heap.size := HR.out.lt
            replace BP2 := BP2.ext hb rfl
            replace BR2 := BR2.ext hb rfl
            replace BX2 := BX2.ext hb rfl
            replace hw2 := hw2.trans (hb.mono hw2.size)
            clear hb
            obtain ⟨y0, y1, y2, y3⟩ := BP2.facts
            obtain ⟨z0, z1, z2, z3⟩ := BR2.facts
            obtain ⟨u0, u1, u2, u3⟩ := BX2.facts
            go_wp2
            go_roundw
            case rel => exact ⟨k + 1, hlt, by go_num, HF, hw2, BP2, BR2⟩
            case measure => simp [intOf]; omega
          | false =>
            cases e4 : onS p X.A X.B with
            | false =>
              have HE : Hid (onW p X = false) := Lib.hid (by rw [onW_eq, e1, e2, e3, e4]; rfl)
              rw [e3] at c1
              rw [e4] at c2
              clear e3 e4
              have HF : Hid ((L2.take (k + 1)).find? (onW p) = none) := Lib.hid (by rw [HT.out, List.find?_append, HI.out, List.find?_cons_of_neg (by rw [HE.out]; simp)]; rfl)
              clear HE HT HI
              have HP := Lib.hid BP
              have HR := Lib.hid BR
              have HW := Lib.hid hwr
              go_wp2_with fail
              refine at_call fun W2 hW => ?_
              have BP2 : Box W2 w.heap.size [.int .i64 p.x, .int .i64 p.y] 33 := by rw [hW]; exact HP.out.old _
              have BR2 : Box W2 (w.heap.size + 1) [.int .i64 0, .int .i64 0, .int .i64 0, .int .i64 0, .int .i64 0] 35 := by rw [hW]; exact HR.out.old _
              have BX2 : Box W2 wr.heap.size [.int .i64 X.A.x, .int .i64 X.A.y, .int .i64 X.B.x, .int .i64 X.B.y, .int .i64 X.K] 35 := by rw [hW]; exact Box.new rfl
              have hw2 : Below w.heap.size w W2 := by have hl := hwr.size; rw [hW]; go_grown
              clear hW BP BR hwr y0 y1 y2 y3 z0 z1 z2 z3 u0 u1 u2 u3 u4 u5 hA
              refine (c1 W2).mono ?_
              rintro e w3 ⟨rfl, hb⟩
              have l1 : w.heap.size + 1 < wr.heap.size := HR.out.lt
              replace BP2 := BP2.ext hb rfl
              replace BR2 := BR2.ext hb rfl
              replace BX2 := BX2.ext hb rfl
              replace hw2 := hw2.trans (hb.mono hw2.size)
              clear hb
              obtain ⟨y0, y1, y2, y3⟩ := BP2.facts
              obtain ⟨z0, z1, z2, z3⟩ := BR2.facts
              obtain ⟨u0, u1, u2, u3⟩ := BX2.facts
              go_wp2_with fail
              refine (c2 w3).mono ?_
              rintro e w4 ⟨rfl, hb⟩
              have BP3 := BP2.ext hb rfl
              have BR3 := BR2.ext hb rfl
              have BX3 := BX2.ext hb rfl
              have hw3 := hw2.trans (hb.mono hw2.size)
              clear hb y0 y1 y2 y3 z0 z1 z2 z3 u0 u1 u2 u3 BP2 BR2 BX2 hw2
              obtain ⟨y0, y1, y2, y3⟩ := BP3.facts
              obtain ⟨z0, z1, z2, z3⟩ := BR3.facts
              obtain ⟨u0, u1, u2, u3⟩ := BX3.facts
              go_wp2
              go_roundw
              case rel => exact ⟨k + 1, hlt, by go_num, HF, hw3, BP3, BR3⟩
              case measure => simp [intOf]; omega
            | true =>
              have HE : Hid (onW p X = true) := Lib.hid (by rw [onW_eq, e1, e2, e3, e4]; rfl)
              rw [e3] at c1
              rw [e4] at c2
              clear e3 e4
              have HP := Lib.hid BP
              have HR := Lib.hid BR
              have HW := Lib.hid hwr
              go_wp2_with fail
              refine at_call fun W2 hW => ?_
              have BP2 : Box W2 w.heap.size [.int .i64 p.x, .int .i64 p.y] 33 := by rw [hW]; exact HP.out.old _
              have BR2 : Box W2 (w.heap.size + 1) [.int .i64 0, .int .i64 0, .int .i64 0, .int .i64 0, .int .i64 0] 35 := by rw [hW]; exact HR.out.old _
              have BX2 : Box W2 wr.heap.size [.int .i64 X.A.x, .int .i64 X.A.y, .int .i64 X.B.x, .int .i64 X.B.y, .int .i64 X.K] 35 := by rw [hW]; exact Box.new rfl
              have hw2 : Below w.heap.size w W2 := by have hl := hwr.size; rw [hW]; go_grown
              clear hW BP BR hwr y0 y1 y2 y3 z0 z1 z2 z3 u0 u1 u2 u3 u4 u5 hA
              refine (c1 W2).mono ?_
              rintro e w3 ⟨rfl, hb⟩
              have l1 : w.heap.size + 1 < wr.heap.size := HR.out.lt
              replace BP2 := BP2.ext hb rfl
              replace BR2 := BR2.ext hb rfl
              replace BX2 := BX2.ext hb rfl
              replace hw2 := hw2.trans (hb.mono hw2.size)
              clear hb
              obtain ⟨y0, y1, y2, y3⟩ := BP2.facts
              obtain ⟨z0, z1, z2, z3⟩ := BR2.facts
              obtain ⟨u0, u1, u2, u3⟩ := BX2.facts
              go_wp2_with fail
              refine (c2 w3).mono ?_
              rintro e w4 ⟨rfl, hb⟩
              have BP3 := BP2.ext hb rfl
              have BR3 := BR2.ext hb rfl
              have BX3 := BX2.ext hb rfl
              have hw3 := hw2.trans (hb.mono hw2.size)
              clear hb y0 y1 y2 y3 z0 z1 z2 z3 u0 u1 u2 u3 BP2 BR2 BX2 hw2
              obtain ⟨y0, y1, y2, y3⟩ := BP3.facts
              obtain ⟨z0, z1, z2, z3⟩ := BR3.facts
              obtain ⟨u0, u1, u2, u3⟩ := BX3.facts
              have HF : Hid (L2.find? (onW p) = some X) := Lib.hid (by
                rw [List.find?_eq_some_iff_append]
                refine ⟨HE.out, L2.take k, L2.drop (k + 1), ?_, fun x hx => by have := List.find?_eq_none.1 HI.out x hx; simpa using this⟩
                rw [← List.singleton_append, ← List.append_assoc, ← HT.out, List.take_append_drop])
              clear HE HT HI
              go_wp2_with fail
              refine bodyPost_ret (v := .tuple #[.agg #[.int .i64 X.A.x, .int .i64 X.A.y, .int .i64 X.B.x, .int .i64 X.B.y, .int .i64 X.K], .bool true]) (by simp [results, Try.results14, go_sem, z0]) rfl ⟨?_, by have hl := hw3.size; go_grown⟩
              rw [HF.out]
              rfl
    · obtain rfl : k = m := by omega
      have HF : Hid (L2.find? (onW p) = none) := Lib.hid (by rw [← HI.out, List.take_of_length_le (by rw [HM.out]; omega)])
      clear HI
      obtain ⟨z0, z1, z2, z3⟩ := BR.facts
      go_wp2_with fail
      refine bodyPost_ret (v := .tuple #[.agg #[.int .i64 0, .int .i64 0, .int .i64 0, .int .i64 0, .int .i64 0], .bool false]) (by simp [results, Try.results14, go_sem, z0]) rfl ⟨?_, by have hl := hwr.size; go_grown⟩
      rw [HF.out]; rfl
end Go.Proofs.Ytnocdecimcpkfaa

namespace Go.Proofs.Ytnocdecimcpkfaa
open Go.RowKit Go.Sort Go.Lib
attribute [local go_sem] rOper rAt rUpon cell_set sg_i64 sg_u64 alloc_cell alloc_frozen
attribute [local go_sem 10000] pt_eql pt_neq wal_eql wal_neq
attribute [local irreducible] rWalk

theorem grownBy_drew {w W : World} {r : Option Nat} (h : w.grownBy W r) : w.grownBy W.drew r := ⟨h.1, h.2, h.3, h.4, h.5⟩
theorem info_wall5 : (Try.prog.info? 35).map (·.size) = some 5 := by kernel_rfl
/-- copy(d, s) where d lies in a block of the call's own. -/
theorem copy_run {w : World} (ty : TypeId) (g o dLen dCap : Nat) (a : Addr) (sLen sCap : Nat) (C cs : List Value) (T : TypeId) (hg : Box w g C T) (hn : cs.length = Nat.min sLen dLen * 5)
    (hsrc : ∀ j v, cs[j]? = some v → w.cell? (a.add j) = some v) (hfit : o + cs.length ≤ C.length) (h1 : ∀ v ∈ cs, v.oneCell' = true) :
    (Builtin.copy_ #[22, 22] ty #[.slice (some ⟨g, o, none⟩) dLen dCap, .slice (some a) sLen sCap]).run Try.prog w =
      .ok (goInt (Nat.min sLen dLen)) (w.setRow g (C.take o ++ cs ++ C.drop (o + cs.length)).toArray) := by
  have hl := run_loadCells_list (P := Try.prog) w a cs hsrc
  have hst := run_storeCells_at Try.prog g o T cs 0 C.toArray w hg (by simpa using hfit) h1
  have hs := info_wall5
  cases hq : Try.prog.info? 35 with
  | none => simp [hq] at hs
  | some i =>
    have hi : i.size = 5 := by simpa [hq] using hs
    simp only [Nat.add_zero] at hst
    simp [Builtin.copy_, run_underlying Try.underlying22, Builtin.lenOf, Builtin.firstCells, sizeOf, typeInfo, hq, hi, ← hn, hl, hst]
theorem Box.setRow {w : World} {g : Nat} {C D : List Value} {T : TypeId} (h : Box w g C T) : Box (w.setRow g D.toArray) g D T := setRow_heap w g _ _ T _ h
theorem shape_box {w : World} {g : Nat} {C : List Value} {T : TypeId} (h : Box w g C T) : w.shape? g = some (T, C.length) := by
  unfold Box at h; simp [World.shape?, h]
theorem apart_run {w : World} {bx g : Nat} {X : Wl} {C : List Value} (hbx : Box w bx (cW X) 35) (hg : Box w g C 35) (hne : bx ≠ g) (hC : C.length ≠ 0) (k la ca lb cb : Nat) :
    (callFunc 64 #[.slice (some ⟨bx, 0, none⟩) la ca, .slice (some ⟨g, k, none⟩) lb cb]).run Try.prog w = .ok (.value (.bool false)) w := by
  rw [run_callFunc_extern Try.func64 (by kernel_rfl) (by kernel_rfl) (by kernel_rfl) (e := Extern.SlicesOverlaps.overlaps #[22, 22] #[4]) (by kernel_rfl),
    Lib.run_overlaps_apart w 22 4 35 Try.underlying22 5 Try.sizeOf35 ⟨bx, 0, none⟩ ⟨g, k, none⟩ la ca lb cb hne _ _ _ _ (shape_box hbx) (shape_box hg) hC (hbx.facts.2.1 _) (hbx.facts.2.1 _)]
  rfl
set_option maxHeartbeats 4000000 in
set_option maxRecDepth 100000 in
/-- Room, not at the end. -/
theorem ins_room (g n c k bx : Nat) (L : List Wl) (X : Wl) (tl : List Value) (w : World) (hn : L.length = n) (hk : k < n) (hc : n + 1 ≤ c) (hc2 : c ≤ maxLen) (htl : tl.length = (c - n) * 5)
    (hg : Box w g (L.flatMap cW ++ tl) 35) (hbx : Box w bx (cW X) 35) (hne : bx ≠ g) :
    Calls Try.prog 39 #[.slice (some ⟨g, 0, none⟩) n c, .int .i64 k, .slice (some ⟨bx, 0, none⟩) 1 1] w fun e w' =>
      e = .returned (.slice (some ⟨g, 0, none⟩) (n + 1) c) ∧ w.grownBy w' (some g) ∧ Box w' g ((L.take k ++ X :: L.drop k).flatMap cW ++ tl.drop 5) 35 := by
  have hov := apart_run hbx hg hne (by rw [List.length_append, flatMap_len cW_len]; omega)
  have hmx : c ≤ 9223372036854775807 := by unfold maxLen at hc2; omega
  have hz1 : ¬ ((k : Int) = (n : Int)) := by omega
  have hA : ((L.take k).flatMap cW).length = k * 5 := by rw [flatMap_len cW_len, List.length_take]; omega
  have hD : ((L.drop k).flatMap cW).length = (n - k) * 5 := by rw [flatMap_len cW_len, List.length_drop, hn]
  have hC : L.flatMap cW = (L.take k).flatMap cW ++ (L.drop k).flatMap cW := by rw [← List.flatMap_append, List.take_append_drop]
  have hR : (L.take k ++ X :: L.drop k).flatMap cW ++ tl.drop 5 = (L.take k).flatMap cW ++ (cW X ++ ((L.drop k).flatMap cW ++ tl.drop 5)) := by
    rw [List.flatMap_append, List.flatMap_cons]; simp only [List.append_assoc]
  have h1D : ∀ v ∈ (L.drop k).flatMap cW, v.oneCell' = true := fun u hu => by
    obtain ⟨x, _, hx⟩ := List.mem_flatMap.1 hu
    exact cW_one x u hx
  rw [hR]
  rw [hC, List.append_assoc] at hg
  clear hR hC
  generalize (L.take k).flatMap cW = A at *
  generalize (L.drop k).flatMap cW = D at *
  have hmin : Nat.min (n + 1 - k) (n - k) = n - k := by simp only [Nat.min_def]; split <;> omega
  have e1 : (A ++ (D ++ tl)).take ((k + 1) * 5) ++ D ++ (A ++ (D ++ tl)).drop ((k + 1) * 5 + D.length) = A ++ ((D ++ tl).take 5 ++ (D ++ tl.drop 5)) := by
    rw [show (k + 1) * 5 = A.length + 5 by omega, List.take_length_add_append, show A.length + 5 + D.length = A.length + (D.length + 5) by omega, List.drop_length_add_append, List.drop_length_add_append]
    simp only [List.append_assoc]
  have hY : ((D ++ tl).take 5).length = 5 := by rw [List.length_take, List.length_append]; omega
  generalize hYe : (D ++ tl).take 5 = Y at *
  have e2 : (A ++ (Y ++ (D ++ tl.drop 5))).take (k * 5) ++ cW X ++ (A ++ (Y ++ (D ++ tl.drop 5))).drop (k * 5 + (cW X).length) = A ++ (cW X ++ (D ++ tl.drop 5)) := by
    rw [← hA, List.take_left, cW_len, List.drop_length_add_append, ← hY, List.drop_left]; simp only [List.append_assoc]
  have hcp1 := fun (ty : TypeId) (dc sc : Nat) => copy_run (w := w.drew) ty g ((k + 1) * 5) (n - k) dc ⟨g, k * 5, none⟩ (n + 1 - k) sc _ D _ hg.drew (by rw [hmin, hD]) (fun j v hj => by
    rw [Addr.add_lit, hg.drew.facts.1, ← hA, List.getElem?_append_right (by omega), show A.length + j - A.length = j by omega, List.getElem?_append_left (List.getElem?_eq_some_iff.1 hj).1]; exact hj)
    (by simp only [List.length_append]; omega) h1D
  rw [e1, hmin] at hcp1
  have hg1 : Box (w.drew.setRow g (A ++ (Y ++ (D ++ tl.drop 5))).toArray) g (A ++ (Y ++ (D ++ tl.drop 5))) 35 := hg.drew.setRow
  have hbx1 : Box (w.drew.setRow g (A ++ (Y ++ (D ++ tl.drop 5))).toArray) bx (cW X) 35 := by
    unfold Box; rw [setRow_other _ _ _ _ hne]; exact hbx
  have hgr : w.grownBy (w.drew.setRow g (A ++ (Y ++ (D ++ tl.drop 5))).toArray) (some g) := ⟨rfl, rfl, rfl, by simp [World.setRow], fun q _ hq => setRow_other _ _ _ _ (fun e => hq (by rw [e]))⟩
  have hcp2 := fun (W : World) (h1 : Box W g (A ++ (Y ++ (D ++ tl.drop 5))) 35) (h2 : Box W bx (cW X) 35) (ty : TypeId) (dc : Nat) => copy_run (w := W) ty g (k * 5) (n + 1 - k) dc ⟨bx, 0, none⟩ 1 1 _ (cW X) _ h1 (by rw [cW_len, show Nat.min 1 (n + 1 - k) = 1 by simp only [Nat.min_def]; split <;> omega]) (fun j v hj => by
    rw [Addr.add_lit, h2.facts.1, Nat.zero_add]; exact hj) (by simp only [List.length_append, cW_len]; omega) (cW_one X)
  rw [e2] at hcp2
  have hfin : ∀ W : World, Box W g (A ++ (Y ++ (D ++ tl.drop 5))) 35 → w.grownBy W (some g) → w.grownBy (W.setRow g (A ++ (cW X ++ (D ++ tl.drop 5))).toArray) (some g) ∧ Box (W.setRow g (A ++ (cW X ++ (D ++ tl.drop 5))).toArray) g (A ++ (cW X ++ (D ++ tl.drop 5))) 35 := fun W h1 h2 =>
    let ⟨a1, a2, a3, a4, a5⟩ := h2
    ⟨⟨a1, a2, a3, by simpa [World.setRow] using a4, fun q hq hne2 => by rw [setRow_other _ _ _ _ (fun e => hne2 (by rw [e]))]; exact a5 q hq hne2⟩, h1.setRow⟩
  obtain ⟨R1, hR1⟩ : ∃ R : Array Value, R = (A ++ (Y ++ (D ++ tl.drop 5))).toArray := ⟨_, rfl⟩
  obtain ⟨R2, hR2⟩ : ∃ R : Array Value, R = (A ++ (cW X ++ (D ++ tl.drop 5))).toArray := ⟨_, rfl⟩
  rw [← hR1] at hcp1 hg1 hbx1 hgr
  rw [← hR2] at hcp2 hfin
  clear hR1 hR2
  have HF := Lib.hid hfin
  have HG := Lib.hid hgr
  have H1 := Lib.hid hg1
  have HB := Lib.hid hbx1
  clear hg hbx hfin hgr hg1 hbx1 e1 e2 hYe hA hD hY h1D htl
  have mixed : Try.prog.follows .mixedOrders = true := by kernel_rfl
  have hw1 : IntKind.i64.wrap ((k : Int) + 1) = (k : Int) + 1 := by rw [IntKind.wrap_i64]; omega
  have hb1 : (0 : Int) ≤ (k : Int) + 1 := by omega
  have htn : ((k : Int) + 1).toNat = k + 1 := by omega
  have hb2 : ¬ (c = k + 1) := by omega
  have hb3 : (k : Int) ≤ (n : Int) + 1 := by omega
  have hb4 : ¬ (c = k) := by omega
  have hb5 : k ≤ n := by omega
  have hb6 : (k : Int) + 1 ≤ (n : Int) + 1 := by omega
  go_enter Try.func39, Try.ntmps39
  go_wp2_with (simp only [hov])
  go_region_law_o (refine step_copy_runI rfl _ _ 22 22 rfl _ _ (by simp [Act.eval, Act.put]) (by simp [Act.eval, Act.put]) (hcp1 _ _ _) ?_)
  go_wp2_with (refine wpList_copy_runI _ rfl _ _ 22 22 rfl _ _ rfl rfl (hcp2 _ H1.out HB.out _ _) ?_)
  go_ret
  exact ⟨rfl, HF.out _ H1.out HG.out⟩
set_option maxHeartbeats 4000000 in
set_option maxRecDepth 100000 in
/-- No room, not at the end. -/
theorem ins_grow (g n c k bx : Nat) (L : List Wl) (X : Wl) (tl : List Value) (w : World) (hn : L.length = n) (hk : k < n) (hc : c < n + 1) (hc2 : n ≤ c) (hL : n ≤ 1000000)
    (hg : Box w g (L.flatMap cW ++ tl) 35) (hbx : Box w bx (cW X) 35) :
    Calls Try.prog 39 #[.slice (some ⟨g, 0, none⟩) n c, .int .i64 k, .slice (some ⟨bx, 0, none⟩) 1 1] w fun e w' =>
      ∃ G tl', e = .returned (.slice (some ⟨w.heap.size, 0, none⟩) (n + 1) G) ∧ w.grownBy w' none ∧ n + 1 ≤ G ∧ G ≤ maxLen ∧ tl'.length = (G - (n + 1)) * 5 ∧ Box w' w.heap.size ((L.take k ++ X :: L.drop k).flatMap cW ++ tl') 35 := by
  obtain ⟨i0, hi0, hz0, hzs, hzb⟩ := info_parts info_wall
  have hA : ((L.take k).flatMap cW).length = k * 5 := by rw [flatMap_len cW_len, List.length_take]; omega
  have hD : ((L.drop k).flatMap cW).length = (n - k) * 5 := by rw [flatMap_len cW_len, List.length_drop, hn]
  have hC : L.flatMap cW = (L.take k).flatMap cW ++ (L.drop k).flatMap cW := by rw [← List.flatMap_append, List.take_append_drop]
  have hR : ∀ tl', (L.take k ++ X :: L.drop k).flatMap cW ++ tl' = (L.take k).flatMap cW ++ (cW X ++ ((L.drop k).flatMap cW ++ tl')) := fun tl' => by
    rw [List.flatMap_append, List.flatMap_cons]; simp only [List.append_assoc]
  have h1D : ∀ v ∈ (L.drop k).flatMap cW, v.oneCell' = true := fun u hu => by
    obtain ⟨x, _, hx⟩ := List.mem_flatMap.1 hu
    exact cW_one x u hx
  simp only [hR]
  rw [hC, List.append_assoc] at hg
  clear hR hC
  generalize (L.take k).flatMap cW = A at *
  generalize (L.drop k).flatMap cW = D at *
  have hgw := hg.lt
  have hbw := hbx.lt
  have hik : k + (n + 1 - k) = n + 1 := by omega
  have hold : (Builtin.firstCells i0.size k (.slice (some ⟨g, 0, none⟩) k c)).run Try.prog w.drew = .ok A.toArray w.drew := by
    rw [hzs]
    exact run_firstCells_some w.drew 5 k ⟨g, 0, none⟩ k c A hA (fun j v hj => by
      rw [Addr.add_lit, hg.drew.facts.1, Nat.zero_add, List.getElem?_append_left (List.getElem?_eq_some_iff.1 hj).1]; exact hj)
  obtain ⟨G, hG⟩ : ∃ G, G = grownCap w (n + 1) c 35 := ⟨_, rfl⟩
  have hGn : n + 1 ≤ G := by rw [hG]; exact grownCap_ge w _ _ _
  have hGm : G ≤ maxLen := by rw [hG]; exact grownCap_le_maxLen w _ _ _ (by unfold maxLen; omega)
  obtain ⟨Z, hZ⟩ : ∃ Z, Z = (Builtin.zeroCells (Value.agg #[.int .i64 0, .int .i64 0, .int .i64 0, .int .i64 0, .int .i64 0]).cells (n + 1 - k)).toList ++ (Builtin.zeroCells (Value.agg #[.int .i64 0, .int .i64 0, .int .i64 0, .int .i64 0, .int .i64 0]).cells (G - (n + 1))).toList := ⟨_, rfl⟩
  have hZl : Z.length = (G - k) * 5 := by
    rw [hZ]; simp only [List.length_append, Array.length_toList, size_zeroCells, Value.cells]; simp; omega
  have hrz : ∀ ty, (Builtin.append_ #[22, 3] ty #[.slice (some ⟨g, 0, none⟩) k c, .int .i64 ((n : Int) + 1 - (k : Int))]).run Try.prog w =
      .ok (.slice (some ⟨w.heap.size, 0, none⟩) (n + 1) G) (w.drew.alloc (.cells (A ++ Z).toArray 35)) := fun ty => by
    have h := Lib.run_append_grow_zeros w 22 3 ty 35 i0 _ .i64 .i64 Try.underlying22 Try.underlying3 hi0 hz0 (some ⟨g, 0, none⟩) k c A hold (n + 1 - k) (by omega) (by omega) (by omega) (by omega) (by rw [hzb]; omega) (by rw [hzb, hik]; exact growslice_fits hc (by omega))
    rw [hik, ← hG] at h
    rw [show (n : Int) + 1 - (k : Int) = ((n + 1 - k : Nat) : Int) by omega, hZ]
    rw [h]
    congr 3
    apply Array.ext'
    simp
  obtain ⟨R0, hR0⟩ : ∃ R : Array Value, R = (A ++ Z).toArray := ⟨_, rfl⟩
  have e1 : (A ++ Z).take (k * 5) ++ cW X ++ (A ++ Z).drop (k * 5 + (cW X).length) = A ++ (cW X ++ Z.drop 5) := by
    rw [← hA, List.take_left, List.drop_length_add_append, cW_len]; simp only [List.append_assoc]
  have e2 : (A ++ (cW X ++ Z.drop 5)).take ((k + 1) * 5) ++ D ++ (A ++ (cW X ++ Z.drop 5)).drop ((k + 1) * 5 + D.length) = A ++ (cW X ++ (D ++ (Z.drop 5).drop D.length)) := by
    rw [← List.append_assoc, show (k + 1) * 5 = (A ++ cW X).length by rw [List.length_append, cW_len]; omega, List.take_left, List.drop_length_add_append]; simp only [List.append_assoc]
  have hb0 : Box (w.drew.alloc (.cells R0 35)) w.heap.size (A ++ Z) 35 := by rw [hR0]; exact Box.new rfl
  have hbx0 := (hbx.drew).old (.cells R0 35)
  have hg0 := (hg.drew).old (.cells R0 35)
  rw [← hR0] at hrz
  have hcpA := fun (W : World) (h1 : Box W w.heap.size (A ++ Z) 35) (h2 : Box W bx (cW X) 35) (ty : TypeId) (dc : Nat) => copy_run (w := W) ty w.heap.size (k * 5) (n + 1 - k) dc ⟨bx, 0, none⟩ 1 1 _ (cW X) _ h1 (by rw [cW_len, show Nat.min 1 (n + 1 - k) = 1 by simp only [Nat.min_def]; split <;> omega]) (fun j v hj => by
    rw [Addr.add_lit, h2.facts.1, Nat.zero_add]; exact hj) (by simp only [List.length_append, cW_len]; omega) (cW_one X)
  rw [e1] at hcpA
  have hcpB := fun (W : World) (h1 : Box W w.heap.size (A ++ (cW X ++ Z.drop 5)) 35) (h2 : Box W g (A ++ (D ++ tl)) 35) (ty : TypeId) (dc sc : Nat) => copy_run (w := W) ty w.heap.size ((k + 1) * 5) (n - k) dc ⟨g, k * 5, none⟩ (n - k) sc _ D _ h1 (by rw [hD, show Nat.min (n - k) (n - k) = n - k by simp]) (fun j v hj => by
    rw [Addr.add_lit, h2.facts.1, ← hA, List.getElem?_append_right (by omega), show A.length + j - A.length = j by omega, List.getElem?_append_left (List.getElem?_eq_some_iff.1 hj).1]; exact hj) (by simp only [List.length_append, List.length_drop, cW_len]; omega) h1D
  rw [e2] at hcpB
  obtain ⟨R1, hR1⟩ : ∃ R : Array Value, R = (A ++ (cW X ++ Z.drop 5)).toArray := ⟨_, rfl⟩
  obtain ⟨R2, hR2⟩ : ∃ R : Array Value, R = (A ++ (cW X ++ (D ++ (Z.drop 5).drop D.length))).toArray := ⟨_, rfl⟩
  rw [← hR1] at hcpA
  rw [← hR2] at hcpB
  have hset1 : ∀ W : World, Box W w.heap.size (A ++ Z) 35 → Box (W.setRow w.heap.size R1) w.heap.size (A ++ (cW X ++ Z.drop 5)) 35 := fun W h => by rw [hR1]; exact h.setRow
  have hset2 : ∀ W : World, Box W w.heap.size (A ++ (cW X ++ Z.drop 5)) 35 → Box (W.setRow w.heap.size R2) w.heap.size (A ++ (cW X ++ (D ++ (Z.drop 5).drop D.length))) 35 := fun W h => by rw [hR2]; exact h.setRow
  have hne : g ≠ w.heap.size := by omega
  have hkeep : ∀ (W : World) (R : Array Value), Box W g (A ++ (D ++ tl)) 35 → Box (W.setRow w.heap.size R) g (A ++ (D ++ tl)) 35 := fun W R h => by
    unfold Box; rw [setRow_other _ _ _ _ hne]; exact h
  have hgrow : ∀ (W : World) (R : Array Value), w.grownBy W none → w.grownBy (W.setRow w.heap.size R) none := fun W R ⟨a1, a2, a3, a4, a5⟩ =>
    ⟨a1, a2, a3, by simpa [World.setRow] using a4, fun q hq hq2 => by rw [setRow_other _ _ _ _ (by omega)]; exact a5 q hq hq2⟩
  have hgr0 : w.grownBy (w.drew.alloc (.cells R0 35)) none := ⟨rfl, rfl, rfl, by simp, fun q hq _ => (by first | exact heap_alloc_old w.drew _ q hq | exact heap_alloc_old w.drew _ hq)⟩
  have htl : ((Z.drop 5).drop D.length).length = (G - (n + 1)) * 5 := by rw [List.length_drop, List.length_drop]; omega
  have HF := Lib.hid (And.intro hset1 (And.intro hset2 (And.intro hkeep hgrow)))
  have H0 := Lib.hid (And.intro hb0 (And.intro hbx0 (And.intro hg0 hgr0)))
  have HT := Lib.hid htl
  have HGm := Lib.hid hGm
  have hG63 : G ≤ 9223372036854775807 := by unfold maxLen at hGm; omega
  have hGi : ¬ (G = k) := by omega
  have hGim : ¬ (G = k + 1) := by omega
  have hci : ¬ (c = k) := by omega
  have hw1 : IntKind.i64.wrap ((k : Int) + 1) = (k : Int) + 1 := by rw [IntKind.wrap_i64]; omega
  have hb1 : (0 : Int) ≤ (k : Int) + 1 := by omega
  have htn : ((k : Int) + 1).toNat = k + 1 := by omega
  have hb3 : (k : Int) ≤ (n : Int) + 1 := by omega
  have hb5 : k ≤ n := by omega
  have hb6 : (k : Int) + 1 ≤ (n : Int) + 1 := by omega
  have hb7 : (k : Int) ≤ (n : Int) := by omega
  have hz1 : ¬ ((k : Int) = (n : Int)) := by omega
  have hz2 : (c : Int) < (n : Int) + 1 := by omega
  have mixed : Try.prog.follows .mixedOrders = true := by kernel_rfl
  clear hR0 hR1 hR2 hG hZ hset1 hset2 hkeep hgrow hgr0 hb0 hbx0 hg0 htl hGm hg hbx e1 e2 hA hD h1D hZl hold hi0 hz0 hzs hzb i0
  go_enter Try.func39, Try.ntmps39
  go_wp2_with (first
    | (at_builtin; refine Lib.wpList_append_run _ rfl _ _ _ _ rfl _ _ rfl rfl _ _ (hrz _) ?_)
    | (refine wpList_copy_runI _ rfl _ _ 22 22 rfl _ _ rfl rfl (hcpA _ H0.out.1 H0.out.2.1 _ _) ?_))
  go_region_law_o (refine step_copy_runI rfl _ _ 22 22 rfl (.slice (some ⟨w.heap.size, (k + 1) * 5, none⟩) (n - k) (G - (k + 1))) (.slice (some ⟨g, k * 5, none⟩) (n - k) (c - k)) (by simp [Act.eval, Act.put]) (by simp [Act.eval, Act.put]) (hcpB _ (HF.out.1 _ H0.out.1).drew (HF.out.2.2.1 _ _ H0.out.2.2.1).drew 3 (G - (k + 1)) (c - k)) ?_)
  go_wp2
  go_ret
  exact ⟨G, _, rfl, HF.out.2.2.2 _ _ (grownBy_drew (HF.out.2.2.2 _ _ H0.out.2.2.2)), hGn, HGm.out, HT.out, HF.out.2.1 _ (HF.out.1 _ H0.out.1)⟩
end Go.Proofs.Ytnocdecimcpkfaa
