/- Put together: WalG. -/
import Derived.Test.YtpeehjkpglkikaaRows
import Derived.Test.YtpeehjkpglkikaaPut23
import Derived.Test.YtpeehjkpglkikaaPut2
import Derived.WalkKit
import Derived.WalkSpells
import Derived.WalkLawsBesides
import Derived.Laws.Externs
import Derived.Deep.QuietTactic
import Derived.BigQuiet
import Derived.Lib.Hide
import Derived.Handy
import Derived.OwnWalk
import Derived.LoopN
import Derived.RegionTactic
namespace Go.Proofs.Ytpeehjkpglkikaa
open Go.RowKit Go.Sort
attribute [local go_sem] rOper rAt rUpon cell_set sg_i64 sg_u64 alloc_cell alloc_frozen
attribute [local go_sem 10000] pt_eql pt_neq wal_eql wal_neq
attribute [local irreducible] rWalk

theorem cW_ex (X : Wl) : cW X = [.int .i64 X.A.x, .int .i64 X.A.y, .int .i64 X.B.x, .int .i64 X.B.y, .int .i64 X.K] := rfl
theorem Box.grownBy {w w' : World} {b : Nat} {cs : List Value} {T : TypeId} {row : Option Nat} (h : Box w b cs T) (hg : w.grownBy w' row) (hne : some b ≠ row) : Box w' b cs T := by
  have hl := h.lt
  unfold Box at *
  rw [hg.block b hl hne]; exact h
theorem WRow.ne {w : World} {B : Nat} {v : Value} {L : List Wl} (h : WRow w (B + 1) v L) : v.ownBlock ≠ some B := fun e => by have := (h.lt _ e).1; omega
theorem WRow.alloc {w : World} {B : Nat} {v : Value} {L : List Wl} (h : WRow w B v L) (o : Obj) : WRow (w.alloc o) B v L := World.ownsRow.alloc h o
set_option maxHeartbeats 1000000 in
theorem at_any (sb : Nat) (a0 : Option Addr) (c n : Nat) (L : List Wl) (p : Pt) (w : World) (S : SetRd w sb a0 c n L) :
    Calls Try.prog 23 #[.pointer (some ⟨sb, 0, none⟩), .agg #[.int .i64 p.x, .int .i64 p.y]] w fun e w' => ∃ v', e = .returned v' ∧ WRow w' w.heap.size v' ((bgL L p).filter (endW p)) ∧ Below w.heap.size w w' := by
  have hsb := S.box.lt
  obtain ⟨_, hb2, hb3⟩ := bg_spec S.ris p
  have hLb : (bgL L p).length ≤ 1000000 := Nat.le_trans hb2 S.le
  have hR : ∀ W, Below w.heap.size w W → RowAt cW 5 W a0 (bgL L p) := fun W hW => by rw [← hb3]; exact (S.row.ext hW rfl).take _
  have cb : ∀ W, Below w.heap.size w W → Calls Try.prog 44 #[.pointer (some ⟨sb, 0, none⟩), .agg #[.int .i64 p.x, .int .i64 p.y]] W fun e w' => e = .returned (.slice a0 (bgL L p).length c) ∧ Below W.heap.size W w' := fun W hW => begun_any sb a0 c n L p W (S.ext hW rfl)
  clear hb2 hb3
  generalize bgL L p = L2 at *
  obtain ⟨m, hm⟩ : ∃ m, L2.length = m := ⟨_, rfl⟩
  rw [hm] at cb hLb
  have HM := Lib.hid hm
  clear S hm
  go_enter Try.func23, Try.ntmps23
  go_wp2_with fail
  refine at_call fun W1 hW => ?_
  have BP : Box W1 w.heap.size [.int .i64 p.x, .int .i64 p.y] 33 := by rw [hW]; exact Box.new rfl
  have hw : Below w.heap.size w W1 := by rw [hW]; go_grown
  clear hW
  refine (cb W1 hw).mono ?_
  rintro e w1 ⟨rfl, hb⟩
  replace BP := BP.ext hb rfl
  replace hw := hw.trans (hb.mono hw.size)
  clear hb cb
  go_wp2_with fail
  go_loopw [5, 7, 12] (fun vl _ vi wr => ∃ k : Nat, k ≤ m ∧ vi = .int .i64 k ∧ WRow wr (w.heap.size + 1) vl ((L2.take k).filter (endW p)) ∧ Below w.heap.size w wr ∧ Box wr w.heap.size [.int .i64 p.x, .int .i64 p.y] 33) (fun _ _ vi _ => m - (intOf vi).toNat)
  case atStart => exact ⟨0, Nat.zero_le _, rfl, WRow.nil0 _ _, hw, BP⟩
  case round =>
    clear BP hw
    obtain ⟨k, hk, rfl, hown, hwr, BP⟩ := hrel
    by_cases hlt : k < m
    · have hkL : k < L2.length := by rw [HM.out]; exact hlt
      obtain ⟨ad, A, ea, eA, hA⟩ := (hR wr hwr).five (j := k) hkL
      have HT : Hid (L2.take (k + 1) = L2.take k ++ [L2[k]]) := Lib.hid (List.take_succ_eq_append_getElem hkL)
      have hle : ((L2.take k).filter (endW p)).length ≤ 1000000 := Nat.le_trans (List.length_filter_le _ _) (by rw [List.length_take]; omega)
      generalize L2[k] = X at *
      obtain ⟨u0, u1, u2, u3, u4, u5⟩ := hA.facts
      obtain ⟨y0, y1, y2, y3⟩ := BP.facts
      subst ea
      cases e1 : peqI X.A.x X.A.y p.x p.y with
      | true =>
        have HE : Hid (endW p X = true) := Lib.hid (by rw [endW_eq, e1]; rfl)
        have HF := Lib.hid (show (L2.take (k + 1)).filter (endW p) = (L2.take k).filter (endW p) ++ [X] by rw [HT.out, List.filter_append, List.filter_cons_of_pos HE.out]; rfl)
        have HO := Lib.hid hwr
        have HB := Lib.hid (show w.heap.size + 1 ≤ wr.heap.size from BP.lt)
        have hlt0 := fun q hq => (hown.lt q hq).1
        have HN := Lib.hid hown.ne
        have HP := Lib.hid BP
        have e3 := cW_ex X
        clear HE HT BP hwr
        go_wp2_with (at_builtin; refine append_wl rfl _ _ rfl (w.heap.size + 1) _ ((L2.take k).filter (endW p)) rfl ((hown.alloc _).alloc _) (wr.heap.size + 1) X rfl (Box.new (by simp)) hle (by have := HB.out; simp; omega) ?_; intro w4 v4 hown4 hg4 hn4)
        have BP4 := ((HP.out.old _).old _).grownBy hg4 (fun e => HN.out e.symm)
        have hb1 : w.heap.size ≤ wr.heap.size := by have := HB.out; omega
        have hw4 := ((HO.out.alloc hb1 (.cells #[.int .i64 X.A.x, .int .i64 X.A.y, .int .i64 X.B.x, .int .i64 X.B.y, .int .i64 X.K] 35)).alloc (by simp; omega) (.cells #[.int .i64 X.A.x, .int .i64 X.A.y, .int .i64 X.B.x, .int .i64 X.B.y, .int .i64 X.K] 35)).grown hg4 (by simp; omega) (fun q hq => by have := hlt0 q hq; omega)
        clear hg4 hlt0 y0 y1 y2 y3 u0 u1 u2 u3 u4 u5 hA
        go_wp2
        go_roundw
        case rel => exact ⟨k + 1, hlt, by go_num, by rw [HF.out]; exact hown4, hw4, BP4⟩
        case measure => simp [intOf]; omega
      | false =>
        cases e2 : peqI X.B.x X.B.y p.x p.y with
        | true =>
          have HE : Hid (endW p X = true) := Lib.hid (by rw [endW_eq, e1, e2]; rfl)
          have HF := Lib.hid (show (L2.take (k + 1)).filter (endW p) = (L2.take k).filter (endW p) ++ [X] by rw [HT.out, List.filter_append, List.filter_cons_of_pos HE.out]; rfl)
          have HO := Lib.hid hwr
          have HB := Lib.hid (show w.heap.size + 1 ≤ wr.heap.size from BP.lt)
          have hlt0 := fun q hq => (hown.lt q hq).1
          have HN := Lib.hid hown.ne
          have HP := Lib.hid BP
          have e3 := cW_ex X
          clear HE HT BP hwr
          go_wp2_with (at_builtin; refine append_wl rfl _ _ rfl (w.heap.size + 1) _ ((L2.take k).filter (endW p)) rfl ((hown.alloc _).alloc _) (wr.heap.size + 1) X rfl (Box.new (by simp)) hle (by have := HB.out; simp; omega) ?_; intro w4 v4 hown4 hg4 hn4)
          have BP4 := ((HP.out.old _).old _).grownBy hg4 (fun e => HN.out e.symm)
          have hb1 : w.heap.size ≤ wr.heap.size := by have := HB.out; omega
          have hw4 := ((HO.out.alloc hb1 (.cells #[.int .i64 X.A.x, .int .i64 X.A.y, .int .i64 X.B.x, .int .i64 X.B.y, .int .i64 X.K] 35)).alloc (by simp; omega) (.cells #[.int .i64 X.A.x, .int .i64 X.A.y, .int .i64 X.B.x, .int .i64 X.B.y, .int .i64 X.K] 35)).grown hg4 (by simp; omega) (fun q hq => by have := hlt0 q hq; omega)
          clear hg4 hlt0 y0 y1 y2 y3 u0 u1 u2 u3 u4 u5 hA
          go_wp2
          go_roundw
          case rel => exact ⟨k + 1, hlt, by go_num, by rw [HF.out]; exact hown4, hw4, BP4⟩
          case measure => simp [intOf]; omega
        | false =>
          have HE : Hid (¬ endW p X = true) := Lib.hid (by rw [endW_eq, e1, e2]; simp)
          have hf : Hid ((L2.take (k + 1)).filter (endW p) = (L2.take k).filter (endW p)) := Lib.hid (by rw [HT.out, List.filter_append, List.filter_cons_of_neg HE.out]; simp)
          have HP := Lib.hid BP
          clear HE HT BP
          go_wp2
          go_roundw
          case rel => exact ⟨k + 1, hlt, by go_num, by rw [hf.out]; exact hown.alloc _, by have hl := hwr.size; go_grown, HP.out.old _⟩
          case measure => simp [intOf]; omega
    · obtain rfl : k = m := by omega
      have hT : (L2.take k).filter (endW p) = L2.filter (endW p) := by rw [List.take_of_length_le (by rw [HM.out]; omega)]
      rw [hT] at hown
      go_wp2
      go_ret
      exact ⟨_, rfl, hown.base (Nat.le_succ _), hwr⟩
def onW (p : Pt) (x : Wl) : Bool := !decide (x.A = p) && (!decide (x.B = p) && (!bsd x p p && onS p x.A x.B))
theorem onW_eq (p : Pt) (x : Wl) : onW p x = (!peqI x.A.x x.A.y p.x p.y && (!peqI x.B.x x.B.y p.x p.y && (!bsd x p p && onS p x.A x.B))) := by rw [peqI_dec, peqI_dec]; rfl
def onV (o : Option Wl) : Value := match o with | some x => .tuple #[.agg #[.int .i64 x.A.x, .int .i64 x.A.y, .int .i64 x.B.x, .int .i64 x.B.y, .int .i64 x.K], .bool true] | none => .tuple #[.agg #[.int .i64 0, .int .i64 0, .int .i64 0, .int .i64 0, .int .i64 0], .bool false]
set_option maxHeartbeats 2000000 in
theorem on_set_any (sb : Nat) (a0 : Option Addr) (c n : Nat) (L : List Wl) (p : Pt) (w : World) (S : SetRd w sb a0 c n L) :
    Calls Try.prog 14 #[.pointer (some ⟨sb, 0, none⟩), .agg #[.int .i64 p.x, .int .i64 p.y]] w fun e w' => e = .returned (onV ((bgL L p).find? (onW p))) ∧ Below w.heap.size w w' := by
  have hsb := S.box.lt
  obtain ⟨_, hb2, hb3⟩ := bg_spec S.ris p
  have hLb : (bgL L p).length ≤ 1000000 := Nat.le_trans hb2 S.le
  have hR : ∀ W, Below w.heap.size w W → RowAt cW 5 W a0 (bgL L p) := fun W hW => by rw [← hb3]; exact (S.row.ext hW rfl).take _
  have cb : ∀ W, Below w.heap.size w W → Calls Try.prog 44 #[.pointer (some ⟨sb, 0, none⟩), .agg #[.int .i64 p.x, .int .i64 p.y]] W fun e w' => e = .returned (.slice a0 (bgL L p).length c) ∧ Below W.heap.size W w' := fun W hW => begun_any sb a0 c n L p W (S.ext hW rfl)
  clear hb2 hb3
  generalize bgL L p = L2 at *
  obtain ⟨m, hm⟩ : ∃ m, L2.length = m := ⟨_, rfl⟩
  rw [hm] at cb hLb
  have HM := Lib.hid hm
  clear S hm
  go_enter Try.func14, Try.ntmps14
  go_wp2_with fail
  refine at_call fun W1 hW => ?_
  have BP : Box W1 w.heap.size [.int .i64 p.x, .int .i64 p.y] 33 := by rw [hW]; exact (Box.new rfl).old _
  have BR : Box W1 (w.heap.size + 1) [.int .i64 0, .int .i64 0, .int .i64 0, .int .i64 0, .int .i64 0] 35 := by rw [hW]; exact Box.new (by simp)
  have hw : Below w.heap.size w W1 := by rw [hW]; go_grown
  clear hW
  refine (cb W1 hw).mono ?_
  rintro e w1 ⟨rfl, hb⟩
  replace BP := BP.ext hb rfl
  replace BR := BR.ext hb rfl
  replace hw := hw.trans (hb.mono hw.size)
  clear hb cb
  go_wp2_with fail
  go_loopw [7, 12] (fun _ vi wr => ∃ k : Nat, k ≤ m ∧ vi = .int .i64 k ∧ Hid ((L2.take k).find? (onW p) = none) ∧ Below w.heap.size w wr ∧ Box wr w.heap.size [.int .i64 p.x, .int .i64 p.y] 33 ∧ Box wr (w.heap.size + 1) [.int .i64 0, .int .i64 0, .int .i64 0, .int .i64 0, .int .i64 0] 35) (fun _ vi _ => m - (intOf vi).toNat)
  case atStart => exact ⟨0, Nat.zero_le _, rfl, Lib.hid rfl, hw, BP, BR⟩
  case round =>
    clear BP BR hw
    obtain ⟨k, hk, rfl, HI, hwr, BP, BR⟩ := hrel
    by_cases hlt : k < m
    · have hkL : k < L2.length := by rw [HM.out]; exact hlt
      obtain ⟨ad, A, ea, eA, hA⟩ := (hR wr hwr).five (j := k) hkL
      have HT : Hid (L2.take (k + 1) = L2.take k ++ [L2[k]]) := Lib.hid (List.take_succ_eq_append_getElem hkL)
      generalize L2[k] = X at *
      obtain ⟨u0, u1, u2, u3, u4, u5⟩ := hA.facts
      obtain ⟨y0, y1, y2, y3⟩ := BP.facts
      obtain ⟨z0, z1, z2, z3⟩ := BR.facts
      subst ea
      have c1 := bsd_any X p p
      have c2 := on_any p X.A X.B
      cases e1 : peqI X.A.x X.A.y p.x p.y with
      | true =>
        have HE : Hid (onW p X = false) := Lib.hid (by rw [onW_eq, e1]; rfl)
        have HF : Hid ((L2.take (k + 1)).find? (onW p) = none) := Lib.hid (by rw [HT.out, List.find?_append, HI.out, List.find?_cons_of_neg (by rw [HE.out]; simp)]; rfl)
        clear HE HT HI
        have HP := Lib.hid BP
        have HR := Lib.hid BR
        clear BP BR
        go_wp2
        go_roundw
        case rel => exact ⟨k + 1, hlt, by go_num, HF, by have hl := hwr.size; go_grown, HP.out.old _, HR.out.old _⟩
        case measure => simp [intOf]; omega
      | false =>
        cases e2 : peqI X.B.x X.B.y p.x p.y with
        | true =>
          have HE : Hid (onW p X = false) := Lib.hid (by rw [onW_eq, e1, e2]; rfl)
          have HF : Hid ((L2.take (k + 1)).find? (onW p) = none) := Lib.hid (by rw [HT.out, List.find?_append, HI.out, List.find?_cons_of_neg (by rw [HE.out]; simp)]; rfl)
          clear HE HT HI
          have HP := Lib.hid BP
          have HR := Lib.hid BR
          clear BP BR
          go_wp2
          go_roundw
          case rel => exact ⟨k + 1, hlt, by go_num, HF, by have hl := hwr.size; go_grown, HP.out.old _, HR.out.old _⟩
          case measure => simp [intOf]; omega
        | false =>
          cases e3 : bsd X p p with
          | true =>
            have HE : Hid (onW p X = false) := Lib.hid (by rw [onW_eq, e1, e2, e3]; rfl)
            rw [e3] at c1
            clear e3
            have HF : Hid ((L2.take (k + 1)).find? (onW p) = none) := Lib.hid (by rw [HT.out, List.find?_append, HI.out, List.find?_cons_of_neg (by rw [HE.out]; simp)]; rfl)
            clear HE HT HI
            have HP := Lib.hid BP
            have HR := Lib.hid BR
            have HW := Lib.hid hwr
            go_wp2_with fail
            refine at_call fun W2 hW => ?_
            have BP2 : Box W2 w.heap.size [.int .i64 p.x, .int .i64 p.y] 33 := by rw [hW]; exact HP.out.old _
            have BR2 : Box W2 (w.heap.size + 1) [.int .i64 0, .int .i64 0, .int .i64 0, .int .i64 0, .int .i64 0] 35 := by rw [hW]; exact HR.out.old _
            have BX2 : Box W2 wr.heap.size [.int .i64 X.A.x, .int .i64 X.A.y, .int .i64 X.B.x, .int .i64 X.B.y, .int .i64 X.K] 35 := by rw [hW]; exact Box.new rfl
            have hw2 : Below w.heap.size w W2 := by have hl := hwr.size; rw [hW]; go_grown
            clear hW BP BR hwr y0 y1 y2 y3 z0 z1 z2 z3 u0 u1 u2 u3 u4 u5 hA
            refine (c1 W2).mono ?_
            rintro e w3 ⟨rfl, hb⟩
            have l1 : w.heap.size + 1 < wr.heap.size := HR.out.lt
            replace BP2 := BP2.ext hb rfl
            replace BR2 := BR2.ext hb rfl
            replace BX2 := BX2.ext hb rfl
            replace hw2 := hw2.trans (hb.mono hw2.size)
            clear hb
            obtain ⟨y0, y1, y2, y3⟩ := BP2.facts
            obtain ⟨z0, z1, z2, z3⟩ := BR2.facts
            obtain ⟨u0, u1, u2, u3⟩ := BX2.facts
            go_wp2
            go_roundw
            case rel => exact ⟨k + 1, hlt, by go_num, HF, hw2, BP2, BR2⟩
            case measure => simp [intOf]; omega
          | false =>
            cases e4 : onS p X.A X.B with
            | false =>
              have HE : Hid (onW p X = false) := Lib.hid (by rw [onW_eq, e1, e2, e3, e4]; rfl)
              rw [e3] at c1
              rw [e4] at c2
              clear e3 e4
              have HF : Hid ((L2.take (k + 1)).find? (onW p) = none) := Lib.hid (by rw [HT.out, List.find?_append, HI.out, List.find?_cons_of_neg (by rw [HE.out]; simp)]; rfl)
              clear HE HT HI
              have HP := Lib.hid BP
              have HR := Lib.hid BR
              have HW := Lib.hid hwr
              go_wp2_with fail
              refine at_call fun W2 hW => ?_
              have BP2 : Box W2 w.heap.size [.int .i64 p.x, .int .i64 p.y] 33 := by rw [hW]; exact HP.out.old _
              have BR2 : Box W2 (w.heap.size + 1) [.int .i64 0, .int .i64 0, .int .i64 0, .int .i64 0, .int .i64 0] 35 := by rw [hW]; exact HR.out.old _
              have BX2 : Box W2 wr.heap.size [.int .i64 X.A.x, .int .i64 X.A.y, .int .i64 X.B.x, .int .i64 X.B.y, .int .i64 X.K] 35 := by rw [hW]; exact Box.new rfl
              have hw2 : Below w.heap.size w W2 := by have hl := hwr.size; rw [hW]; go_grown
              clear hW BP BR hwr y0 y1 y2 y3 z0 z1 z2 z3 u0 u1 u2 u3 u4 u5 hA
              refine (c1 W2).mono ?_
              rintro e w3 ⟨rfl, hb⟩
              have l1 : w.heap.size + 1 < wr.heap.size := HR.out.lt
              replace BP2 := BP2.ext hb rfl
              replace BR2 := BR2.ext hb rfl
              replace BX2 := BX2.ext hb rfl
              replace hw2 := hw2.trans (hb.mono hw2.size)
              clear hb
              obtain ⟨y0, y1, y2, y3⟩ := BP2.facts
              obtain ⟨z0, z1, z2, z3⟩ := BR2.facts
              obtain ⟨u0, u1, u2, u3⟩ := BX2.facts
              go_wp2_with fail
              refine (c2 w3).mono ?_
              rintro e w4 ⟨rfl, hb⟩
              have BP3 := BP2.ext hb rfl
              have BR3 := BR2.ext hb rfl
              have BX3 := BX2.ext hb rfl
              have hw3 := hw2.trans (hb.mono hw2.size)
              clear hb y0 y1 y2 y3 z0 z1 z2 z3 u0 u1 u2 u3 BP2 BR2 BX2 hw2
              obtain ⟨y0, y1, y2, y3⟩ := BP3.facts
              obtain ⟨z0, z1, z2, z3⟩ := BR3.facts
              obtain ⟨u0, u1, u2, u3⟩ := BX3.facts
              go_wp2
              go_roundw
              case rel => exact ⟨k + 1, hlt, by go_num, HF, hw3, BP3, BR3⟩
              case measure => simp [intOf]; omega
            | true =>
              have HE : Hid (onW p X = true) := Lib.hid (by rw [onW_eq, e1, e2, e3, e4]; rfl)
              rw [e3] at c1
              rw [e4] at c2
              clear e3 e4
              have HP := Lib.hid BP
              have HR := Lib.hid BR
              have HW := Lib.hid hwr
              go_wp2_with fail
              refine at_call fun W2 hW => ?_
              have BP2 : Box W2 w.heap.size [.int .i64 p.x, .int .i64 p.y] 33 := by rw [hW]; exact HP.out.old _
              have BR2 : Box W2 (w.heap.size + 1) [.int .i64 0, .int .i64 0, .int .i64 0, .int .i64 0, .int .i64 0] 35 := by rw [hW]; exact HR.out.old _
              have BX2 : Box W2 wr.heap.size [.int .i64 X.A.x, .int .i64 X.A.y, .int .i64 X.B.x, .int .i64 X.B.y, .int .i64 X.K] 35 := by rw [hW]; exact Box.new rfl
              have hw2 : Below w.heap.size w W2 := by have hl := hwr.size; rw [hW]; go_grown
              clear hW BP BR hwr y0 y1 y2 y3 z0 z1 z2 z3 u0 u1 u2 u3 u4 u5 hA
              refine (c1 W2).mono ?_
              rintro e w3 ⟨rfl, hb⟩
              have l1 : w.heap.size + 1 < wr.heap.size := HR.out.lt
              replace BP2 := BP2.ext hb rfl
              replace BR2 := BR2.ext hb rfl
              replace BX2 := BX2.ext hb rfl
              replace hw2 := hw2.trans (hb.mono hw2.size)
              clear hb
              obtain ⟨y0, y1, y2, y3⟩ := BP2.facts
              obtain ⟨z0, z1, z2, z3⟩ := BR2.facts
              obtain ⟨u0, u1, u2, u3⟩ := BX2.facts
              go_wp2_with fail
              refine (c2 w3).mono ?_
              rintro e w4 ⟨rfl, hb⟩
              have BP3 := BP2.ext hb rfl
              have BR3 := BR2.ext hb rfl
              have BX3 := BX2.ext hb rfl
              have hw3 := hw2.trans (hb.mono hw2.size)
              clear hb y0 y1 y2 y3 z0 z1 z2 z3 u0 u1 u2 u3 BP2 BR2 BX2 hw2
              obtain ⟨y0, y1, y2, y3⟩ := BP3.facts
              obtain ⟨z0, z1, z2, z3⟩ := BR3.facts
              obtain ⟨u0, u1, u2, u3⟩ := BX3.facts
              have HF : Hid (L2.find? (onW p) = some X) := Lib.hid (by
                rw [List.find?_eq_some_iff_append]
                refine ⟨HE.out, L2.take k, L2.drop (k + 1), ?_, fun x hx => by have := List.find?_eq_none.1 HI.out x hx; simpa using this⟩
                rw [← List.singleton_append, ← List.append_assoc, ← HT.out, List.take_append_drop])
              clear HE HT HI
              go_wp2_with fail
              refine bodyPost_ret (v := .tuple #[.agg #[.int .i64 X.A.x, .int .i64 X.A.y, .int .i64 X.B.x, .int .i64 X.B.y, .int .i64 X.K], .bool true]) (by simp [results, Try.results14, go_sem, z0]) rfl ⟨?_, by have hl := hw3.size; go_grown⟩
              rw [HF.out]
              rfl
    · obtain rfl : k = m := by omega
      have HF : Hid (L2.find? (onW p) = none) := Lib.hid (by rw [← HI.out, List.take_of_length_le (by rw [HM.out]; omega)])
      clear HI
      obtain ⟨z0, z1, z2, z3⟩ := BR.facts
      go_wp2_with fail
      refine bodyPost_ret (v := .tuple #[.agg #[.int .i64 0, .int .i64 0, .int .i64 0, .int .i64 0, .int .i64 0], .bool false]) (by simp [results, Try.results14, go_sem, z0]) rfl ⟨?_, by have hl := hwr.size; go_grown⟩
      rw [HF.out]; rfl
end Go.Proofs.Ytpeehjkpglkikaa
