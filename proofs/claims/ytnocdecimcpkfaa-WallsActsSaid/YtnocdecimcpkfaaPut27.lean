/- Put together: DocF, DocG. -/
import Derived.Test.YtnocdecimcpkfaaRows
import Derived.Test.YtnocdecimcpkfaaPut25
import Derived.Test.YtnocdecimcpkfaaPut26
import Derived.Test.YtnocdecimcpkfaaPut1
import Derived.WalkKit
import Derived.WalkSpells
import Derived.WalkLawsBesides
import Derived.Laws.Externs
import Derived.Deep.QuietTactic
import Derived.BigQuiet
import Derived.Lib.Hide
import Derived.Handy
import Derived.OwnWalk
import Derived.LoopN
import Derived.RegionTactic
namespace Go.Proofs.Ytnocdecimcpkfaa
open Go.RowKit Go.Sort
attribute [local go_sem] rOper rAt rUpon cell_set sg_i64 sg_u64 alloc_cell alloc_frozen
attribute [local go_sem 10000] pt_eql pt_neq wal_eql wal_neq
attribute [local irreducible] rWalk
attribute [local go_sem ↓ 10000] run_from_wal run_upto_wal

/-- What Remove makes of a row. -/
def RemAt (L : List Wl) (p q : Pt) (r : Int) (L' : List Wl) : Prop :=
  (r = 16 ∧ L' = L ∧ ∀ x ∈ L, isW p q x = false) ∨ (r = 0 ∧ ∃ (k : Nat) (h : k < L.length), isW p q L[k] = true ∧ L' = L.take k ++ L.drop (k + 1))
theorem isW_eq (p q : Pt) (x : Wl) : isW p q x = (peqI x.A.x x.A.y p.x p.y && peqI x.B.x x.B.y q.x q.y) := by rw [peqI_dec, peqI_dec]; rfl
set_option maxRecDepth 100000 in
set_option maxHeartbeats 4000000 in
theorem rrem_any (db : Nat) (v : Value) (L : List Wl) (a b : Pt) (w : World) (S : DocAt w db v L) :
    Calls Try.prog 13 #[.pointer (some ⟨db, 0, none⟩), .agg #[.int .i64 a.x, .int .i64 a.y], .agg #[.int .i64 b.x, .int .i64 b.y]] w fun e w' => ∃ r v' L', e = .returned (.int .i64 r) ∧ RemAt L (rl a b) (rg a b) r L' ∧ DocAt w' db v' L' ∧ Frm w w' (· = db) ∧ (∀ g, v'.ownBlock = some g → v.ownBlock = some g ∨ w.heap.size ≤ g) := by
  obtain ⟨a0, c, rfl, D, hz⟩ := S.rd
  have HS := Lib.hid S
  clear S
  have hdb := D.box.lt
  have hle := D.le
  obtain ⟨n, hn⟩ : ∃ n, L.length = n := ⟨_, rfl⟩
  rw [hn] at D HS hle
  have HM := Lib.hid hn
  have hnc := D.nc
  have hfl := D.flat
  have HD := Lib.hid D
  clear D hn
  have c1 := rl_any a b
  have c2 := rg_any a b
  generalize rl a b = p at *
  generalize rg a b = q at *
  go_enter Try.func13, Try.ntmps13
  go_wp2_with fail
  refine at_world fun W1 hW => ?_
  have BA : Box W1 w.heap.size [.int .i64 a.x, .int .i64 a.y] 33 := by rw [hW]; exact (Box.new rfl).old _
  have BB : Box W1 (w.heap.size + 1) [.int .i64 b.x, .int .i64 b.y] 33 := by rw [hW]; exact Box.new (by simp)
  have hw : Below w.heap.size w W1 := by rw [hW]; go_grown
  clear hW
  go_loopw [7] (fun vi wr => ∃ k : Nat, k ≤ n ∧ vi = .int .i64 k ∧ Hid (∀ (j : Nat) (h : j < L.length), j < k → isW p q L[j] = false) ∧ Below w.heap.size w wr ∧ Box wr w.heap.size [.int .i64 a.x, .int .i64 a.y] 33 ∧ Box wr (w.heap.size + 1) [.int .i64 b.x, .int .i64 b.y] 33) (fun vi _ => n - (intOf vi).toNat)
  case atStart => exact ⟨0, Nat.zero_le _, rfl, Lib.hid (fun j h hj => by omega), hw, BA, BB⟩
  case round =>
    clear BA BB hw
    obtain ⟨k, hk, rfl, HA, hwr, BA, BB⟩ := hrel
    have BD := (HD.out.ext hwr rfl).box
    have hrow := (HD.out.ext hwr rfl).row
    by_cases hkn : k < n
    · have hkL : k < L.length := by rw [HM.out]; exact hkn
      obtain ⟨aj, A, ea, eA, hA5⟩ := hrow.five (j := k) hkL
      have HY : Hid (L[k] = L[k]) := Lib.hid rfl
      generalize hY : L[k] = Y at hA5 HY
      clear HY
      have HY := Lib.hid hY
      clear hY
      obtain ⟨s0, s1, s2, s3, s4⟩ := hA5.cells
      have gA := BA.cells
      have gB := BB.cells
      have gD := BD.cells
      obtain ⟨d0, d1, d2, d3⟩ := BD.facts
      have q3 : (k : Int) < (n : Int) := by omega
      have q4 : (0 : Int) ≤ (k : Int) := by omega
      subst ea
      clear hA5
      cases e1 : peqI Y.A.x Y.A.y p.x p.y with
      | false =>
        have HE : Hid (isW p q Y = false) := Lib.hid (by rw [isW_eq, e1]; rfl)
        have HA2 : Hid (∀ (j : Nat) (h : j < L.length), j < k + 1 → isW p q L[j] = false) := Lib.hid (fun j h hj => by
          by_cases e : j = k
          · subst e; rw [HY.out]; exact HE.out
          · exact HA.out j h (by omega))
        clear HA HY HE
        go_wp2_with fail
        refine (wp_region_tail 25 (by kernel_rfl) (by kernel_rfl) (C := fun w' => ∃ p : Regrown, w' = grow (redrawn wr p.d) p.os) (fun w' h => regrown_of_below h) ?_)
        simp only [List.take_succ_cons, List.take_zero, List.drop_succ_cons, List.drop_zero]
        repeat (first | (refine rWalk_skip (Eq.refl false) ?_; simp only [Act.put, List.setIfInBounds_toArray, List.set_cons_succ, List.set_cons_zero]) | (refine rWalk_step (fun K hK => ?_); go_simp; first | (refine hK _ ?_; clear hK K) | (apply Exists.intro; refine ⟨fun _ => ?_, hK _ ?_⟩; (first | with_reducible exact toExt c1 _ | with_reducible exact toExt c2 _); clear hK K)))
        refine rWalk_nil ?_
        intro wx hb
        replace BA := BA.ext hb rfl
        replace BB := BB.ext hb rfl
        replace BD := BD.ext hb rfl
        replace hrow := hrow.ext hb rfl
        replace hwr := hwr.trans (hb.mono hwr.size)
        clear hb gA gB gD d0 d1 d2 d3 s0 s1 s2 s3 s4 c1 c2 q3 q4
        have HQ := Lib.hid hwr
        have HBA := Lib.hid BA
        have HBB := Lib.hid BB
        clear BA BB BD hrow hwr
        go_wp2
        go_roundw
        case rel => exact ⟨k + 1, hkn, by go_num, HA2, HQ.out, HBA.out, HBB.out⟩
        case measure => simp [intOf]; omega
      | true =>
        cases e2 : peqI Y.B.x Y.B.y q.x q.y with
        | false =>
          have HE : Hid (isW p q Y = false) := Lib.hid (by rw [isW_eq, e1, e2]; rfl)
          have HA2 : Hid (∀ (j : Nat) (h : j < L.length), j < k + 1 → isW p q L[j] = false) := Lib.hid (fun j h hj => by
            by_cases e : j = k
            · subst e; rw [HY.out]; exact HE.out
            · exact HA.out j h (by omega))
          clear HA HY HE
          go_wp2_with fail
          refine (wp_region_tail 25 (by kernel_rfl) (by kernel_rfl) (C := fun w' => ∃ p : Regrown, w' = grow (redrawn wr p.d) p.os) (fun w' h => regrown_of_below h) ?_)
          simp only [List.take_succ_cons, List.take_zero, List.drop_succ_cons, List.drop_zero]
          repeat (first | (refine rWalk_skip (Eq.refl false) ?_; simp only [Act.put, List.setIfInBounds_toArray, List.set_cons_succ, List.set_cons_zero]) | (refine rWalk_step (fun K hK => ?_); go_simp; first | (refine hK _ ?_; clear hK K) | (apply Exists.intro; refine ⟨fun _ => ?_, hK _ ?_⟩; (first | with_reducible exact toExt c1 _ | with_reducible exact toExt c2 _); clear hK K)))
          refine rWalk_nil ?_
          intro wx hb
          replace BA := BA.ext hb rfl
          replace BB := BB.ext hb rfl
          replace BD := BD.ext hb rfl
          replace hrow := hrow.ext hb rfl
          replace hwr := hwr.trans (hb.mono hwr.size)
          clear hb gA gB gD d0 d1 d2 d3 s0 s1 s2 s3 s4 c1 c2 q3 q4
          have HQ := Lib.hid hwr
          have HBA := Lib.hid BA
          have HBB := Lib.hid BB
          clear BA BB BD hrow hwr
          go_wp2
          go_roundw
          case rel => exact ⟨k + 1, hkn, by go_num, HA2, HQ.out, HBA.out, HBB.out⟩
          case measure => simp [intOf]; omega
        | true =>
          have HE : Hid (isW p q Y = true) := Lib.hid (by rw [isW_eq, e1, e2]; rfl)
          obtain ⟨k1, hk1⟩ : ∃ k1, k + 1 = k1 := ⟨_, rfl⟩
          have HREM : Hid (RemAt L p q 0 (L.take k ++ L.drop k1)) := Lib.hid (.inr ⟨rfl, k, hkL, by rw [HY.out]; exact HE.out, by rw [hk1]⟩)
          clear HA HY HE
          go_wp2_with fail
          refine (wp_region_tail 25 (by kernel_rfl) (by kernel_rfl) (C := fun w' => ∃ p : Regrown, w' = grow (redrawn wr p.d) p.os) (fun w' h => regrown_of_below h) ?_)
          simp only [List.take_succ_cons, List.take_zero, List.drop_succ_cons, List.drop_zero]
          repeat (first | (refine rWalk_skip (Eq.refl false) ?_; simp only [Act.put, List.setIfInBounds_toArray, List.set_cons_succ, List.set_cons_zero]) | (refine rWalk_step (fun K hK => ?_); go_simp; first | (refine hK _ ?_; clear hK K) | (apply Exists.intro; refine ⟨fun _ => ?_, hK _ ?_⟩; (first | with_reducible exact toExt c1 _ | with_reducible exact toExt c2 _); clear hK K)))
          refine rWalk_nil ?_
          intro wx hb
          replace BA := BA.ext hb rfl
          replace BB := BB.ext hb rfl
          replace BD := BD.ext hb rfl
          replace hrow := hrow.ext hb rfl
          replace hwr := hwr.trans (hb.mono hwr.size)
          clear hb gA gB gD d0 d1 d2 d3 s0 s1 s2 s3 s4 c1 c2 q3 q4
          obtain ⟨ad, had, hdr, hfl2, hnil⟩ := drop_part hrow HM.out hnc hfl (show k1 ≤ n by omega) hz
          have HAD := Lib.hid had
          have HT1 := Lib.hid (show (L.take k).length = k by rw [List.length_take, HM.out]; omega)
          have HT2 := Lib.hid (show (L.drop k1).length = n - k1 by rw [List.length_drop, HM.out])
          have hk6 : k ≤ 1000000 := by omega
          have hk7 : k + (n - k1) ≤ 1000000 := by omega
          have q5 : IntKind.i64.wrap ((k : Int) + 1) = (k1 : Int) := by rw [IntKind.wrap_i64]; omega
          have gD := BD.cells
          have z2 : k ≤ c := by omega
          have z3 : k1 ≤ n := by omega
          clear had hk1 e1 e2
          go_wp2_with fail
          have hcB : ∀ w', (∃ p : Regrown, w' = grow (redrawn wx p.d) p.os) → Below wx.heap.size wx w' := fun w' h => by obtain ⟨p, rfl⟩ := h; exact below_regrown _ _ _
          refine FT.wp_region_flow 17 (.run 0 (.run 2 (.run 3 (.run 4 (.run 5 (.run 6 (.run 7 (.run 9 (.run 10 (.run 11 (.run 12 (.run 13 (.run 14 (.run 15 (.alt 1 (.alt 8 (.alt 16 (.tail) .stop) .stop) .stop))))))))))))))) rfl (by kernel_rfl) (fun _ x _ _ _ h => by cases x <;> exact h) (C := fun w' => ∃ p : Regrown, w' = grow (redrawn wx p.d) p.os) (fun _ h => regrown_of_below h) hcB ?_
          have hC : ∀ x y, Ext x y → (∃ p : Regrown, x = grow (redrawn wx p.d) p.os) → (∃ p : Regrown, y = grow (redrawn wx p.d) p.os) := fun x y h1 h2 => regrown_of_below ((hcB x h2).trans (h1.mono (hcB x h2).size))
          iterate 14 (refine FT.flow_run rfl (fun K hK => ?_); go_simp; first | (refine hK _ ?_; clear hK K) | (apply Exists.intro; refine ⟨fun _ => ?_, hK _ ?_⟩; rotate_left; clear hK K))
          first | rw [HAD.out] | (have hq := HAD.out; simp only [Option.map_some] at hq; rw [hq]; clear hq)
          refine FT.flow_at hC rfl trivial (fun w1 hw1 K hK => ?_)
          go_simp
          have hbM : Below wx.heap.size wx (w1.alloc (.cells #[] 35)) := Below.alloc hw1 (Below.size hw1) _
          have hrM := made_row w1 wx.heap.size (Below.size hw1)
          refine hK _ _ (regrown_of_below hbM) ?_
          clear hK K
          refine FT.flow_at hC rfl trivial (fun w2 hw2 K hK => ?_)
          have hb2 := hbM.trans (Below.mono hw2 hbM.size)
          refine flow_append (by rfl) _ _ (by rfl) wx.heap.size _ [] (by rfl) (hrM.ext hw2 rfl) _ k c (L.take k) (by rfl) HT1.out ((hrow.ext hb2 rfl).take k) hfl (fun e => by cases e) (by simpa using hk6) (Below.size hb2) (some 51) (by rfl) ?_
          intro w3 v12 hr12 hf12 hs12
          rw [List.nil_append] at hr12
          have hb3 := hb2.trans (hf12.below (fun k e => ((hrM.ext hw2 rfl).lt k e).1) hb2.size)
          refine hK _ _ (regrown_of_below hb3) ?_
          clear hK K
          simp only [Act.put, List.setIfInBounds_toArray, List.set_cons_succ, List.set_cons_zero]
          refine FT.flow_at hC rfl trivial (fun w6 hw6 K hK => ?_)
          have hb6 := hb3.trans (hw6.mono hb3.size)
          refine flow_append (by rfl) _ _ (by rfl) wx.heap.size v12 (L.take k) (by rfl) (hr12.ext hw6 rfl) ad (n - k1) (c - k1) (L.drop k1) (by rfl) HT2.out (hdr.ext hb6 rfl) hfl2 hnil (by rw [HT1.out]; exact hk7) hb6.size (some 59) (by rfl) ?_
          intro w7 v18 hr18 hf18 hs18
          have hb7 := hb6.trans (hf18.below (fun k e => ((hr12.ext hw6 rfl).lt k e).1) hb6.size)
          refine hK _ _ (regrown_of_below hb7) ?_
          clear hK K
          simp only [Act.put, List.setIfInBounds_toArray, List.set_cons_succ, List.set_cons_zero]
          intro w8 hw8
          have hb8 := hb7.trans (hw8.mono hb7.size)
          have BD8 := BD.ext hb8 rfl
          have hw8' := hwr.trans (hb8.mono hwr.size)
          obtain ⟨hS8, hF8, hG8⟩ := doc_end HS.out hw8' ((hr18.ext hw8 rfl).base hwr.size) (by rw [List.length_append, HT1.out, HT2.out]; exact hk7)
          obtain ⟨a18, n18, c18, rfl⟩ := hr18.form
          obtain ⟨d0, d1, d2, d3⟩ := BD8.facts
          clear hr12 hr18 hf12 hs12 hf18 hs18 gD
          simp only [List.drop_succ_cons, List.drop_zero]
          go_wp2
          go_ret
          exact ⟨0, _, _, rfl, HREM.out, hS8, hF8, fun g e => .inr (hG8 g e)⟩
    · obtain rfl : k = n := by omega
      have HREM : Hid (RemAt L p q 16 L) := Lib.hid (.inl ⟨rfl, rfl, fun x hx => by
        obtain ⟨j, hj, rfl⟩ := List.mem_iff_getElem.1 hx
        exact HA.out j hj (by have := HM.out; omega)⟩)
      have hF : Frm w wr (· = db) := Frm.of_below hwr
      have hS := HS.out.ext hwr rfl
      have HF := Lib.hid hF
      have HS2 := Lib.hid hS
      obtain ⟨d0, d1, d2, d3⟩ := BD.facts
      clear hS hF HA
      go_wp2
      go_ret
      exact ⟨16, _, L, rfl, HREM.out, HS2.out, HF.out, fun g e => .inl (by rw [HM.out]; exact e)⟩
end Go.Proofs.Ytnocdecimcpkfaa

namespace Go.Proofs.Ytnocdecimcpkfaa
open Go.RowKit Go.Sort
attribute [local go_sem] rOper rAt rUpon cell_set sg_i64 sg_u64 alloc_cell alloc_frozen
attribute [local go_sem 10000] pt_eql pt_neq wal_eql wal_neq
attribute [local irreducible] rWalk

/-- What Add makes of a row. -/
def addDE (L : List Wl) (X : Wl) : Int := if unm X = true then 2 else clashD L X.A X.B
def AddAt (L : List Wl) (X : Wl) (r : Int) (L' : List Wl) : Prop := r = addDE L X ∧ ((r ≠ 0 ∧ L' = L) ∨ (r = 0 ∧ ∃ k, PutAt L X k ∧ L' = L.take k ++ X :: L.drop k))
theorem DocAt.mk_ext {w w' : World} {db : Nat} {v : Value} {L : List Wl} (S : DocAt w db v L) (hb : Below w.heap.size w w') {r : Int} {X : Wl} (hr : r = addDE L X) (h0 : r ≠ 0) :
    AddAt L X r L ∧ DocAt w' db v L ∧ Frm w w' (· = db) ∧ (∀ g, v.ownBlock = some g → v.ownBlock = some g ∨ w.heap.size ≤ g) :=
  ⟨⟨hr, .inl ⟨h0, rfl⟩⟩, S.ext hb rfl, Frm.of_below hb, fun _ e => .inl e⟩
set_option maxHeartbeats 1000000 in
theorem radd_0 (db : Nat) (v : Value) (L : List Wl) (X : Wl) (ho : mkOk X.A X.B X.K = false) (w : World) (S : DocAt w db v L) :
    Calls Try.prog 11 #[.pointer (some ⟨db, 0, none⟩), .agg #[.int .i64 X.A.x, .int .i64 X.A.y, .int .i64 X.B.x, .int .i64 X.B.y, .int .i64 X.K]] w fun e w' => ∃ r v' L', e = .returned (.int .i64 r) ∧ AddAt L X r L' ∧ DocAt w' db v' L' ∧ Frm w w' (· = db) ∧ (∀ g, v'.ownBlock = some g → v.ownBlock = some g ∨ w.heap.size ≤ g) := by
  have HS := Lib.hid S
  clear S
  have HV : Hid (2 = addDE L X) := Lib.hid (by unfold addDE unm; rw [ho]; rfl)
  have HN : Hid ((2 : Int) ≠ 0) := Lib.hid (by decide)
  have cm := rmw_any X.A X.B X.K
  rw [ho] at cm
  clear ho
  generalize mkW X.A X.B X.K = W0 at *
  go_enter Try.func11, Try.ntmps11
  go_wp2_with fail
  refine at_call fun W1 hW => ?_
  have Bw : Box W1 (w.heap.size) [.int .i64 X.A.x, .int .i64 X.A.y, .int .i64 X.B.x, .int .i64 X.B.y, .int .i64 X.K] 35 := by rw [hW]; exact Box.new rfl
  have hw : Below w.heap.size w W1 := by rw [hW]; go_grown
  clear hW
  refine (cm _).mono ?_
  rintro e w2 ⟨rfl, hb⟩
  replace Bw := Bw.ext hb rfl
  replace hw := hw.trans (hb.mono hw.size)
  clear hb
  obtain ⟨xw, yw, zw, vw⟩ := Bw.facts
  go_wp2
  go_ret
  exact ⟨2, v, L, rfl, HS.out.mk_ext (by have hl := hw.size; go_grown) HV.out HN.out⟩

set_option maxHeartbeats 1000000 in
theorem radd_1 (db : Nat) (v : Value) (L : List Wl) (X : Wl) (ho : mkOk X.A X.B X.K = true) (hu : unm X = true) (w : World) (S : DocAt w db v L) :
    Calls Try.prog 11 #[.pointer (some ⟨db, 0, none⟩), .agg #[.int .i64 X.A.x, .int .i64 X.A.y, .int .i64 X.B.x, .int .i64 X.B.y, .int .i64 X.K]] w fun e w' => ∃ r v' L', e = .returned (.int .i64 r) ∧ AddAt L X r L' ∧ DocAt w' db v' L' ∧ Frm w w' (· = db) ∧ (∀ g, v'.ownBlock = some g → v.ownBlock = some g ∨ w.heap.size ≤ g) := by
  have HS := Lib.hid S
  clear S
  have HV : Hid (2 = addDE L X) := Lib.hid (by unfold addDE; rw [hu]; rfl)
  have HN : Hid ((2 : Int) ≠ 0) := Lib.hid (by decide)
  have hq : weqI (mkW X.A X.B X.K).A.x (mkW X.A X.B X.K).A.y (mkW X.A X.B X.K).B.x (mkW X.A X.B X.K).B.y (mkW X.A X.B X.K).K X.A.x X.A.y X.B.x X.B.y X.K = false := by unfold unm at hu; rw [ho] at hu; rw [weqI_dec]; simpa using hu
  have cm := rmw_any X.A X.B X.K
  rw [ho] at cm
  clear ho hu
  generalize mkW X.A X.B X.K = W0 at *
  go_enter Try.func11, Try.ntmps11
  go_wp2_with fail
  refine at_call fun W1 hW => ?_
  have Bw : Box W1 (w.heap.size) [.int .i64 X.A.x, .int .i64 X.A.y, .int .i64 X.B.x, .int .i64 X.B.y, .int .i64 X.K] 35 := by rw [hW]; exact Box.new rfl
  have hw : Below w.heap.size w W1 := by rw [hW]; go_grown
  clear hW
  refine (cm _).mono ?_
  rintro e w2 ⟨rfl, hb⟩
  replace Bw := Bw.ext hb rfl
  replace hw := hw.trans (hb.mono hw.size)
  clear hb
  obtain ⟨xw, yw, zw, vw⟩ := Bw.facts
  go_wp2
  go_ret
  exact ⟨2, v, L, rfl, HS.out.mk_ext (by have hl := hw.size; go_grown) HV.out HN.out⟩

set_option maxHeartbeats 1000000 in
theorem radd_2 (db : Nat) (v : Value) (L : List Wl) (X : Wl) (hu : unm X = false) (hc : clashD L X.A X.B ≠ 0) (w : World) (S : DocAt w db v L) :
    Calls Try.prog 11 #[.pointer (some ⟨db, 0, none⟩), .agg #[.int .i64 X.A.x, .int .i64 X.A.y, .int .i64 X.B.x, .int .i64 X.B.y, .int .i64 X.K]] w fun e w' => ∃ r v' L', e = .returned (.int .i64 r) ∧ AddAt L X r L' ∧ DocAt w' db v' L' ∧ Frm w w' (· = db) ∧ (∀ g, v'.ownBlock = some g → v.ownBlock = some g ∨ w.heap.size ≤ g) := by
  have HS := Lib.hid S
  clear S
  have HV : Hid (clashD L X.A X.B = addDE L X) := Lib.hid (by unfold addDE; rw [hu]; rfl)
  have HN : Hid (clashD L X.A X.B ≠ 0) := Lib.hid hc
  have ho : mkOk X.A X.B X.K = true := by unfold unm at hu; revert hu; cases mkOk X.A X.B X.K <;> simp
  have hq : weqI (mkW X.A X.B X.K).A.x (mkW X.A X.B X.K).A.y (mkW X.A X.B X.K).B.x (mkW X.A X.B X.K).B.y (mkW X.A X.B X.K).K X.A.x X.A.y X.B.x X.B.y X.K = true := by unfold unm at hu; rw [ho] at hu; rw [weqI_dec]; simpa using hu
  have cm := rmw_any X.A X.B X.K
  rw [ho] at cm
  clear ho hu
  generalize mkW X.A X.B X.K = W0 at *
  obtain ⟨a0, c, hv0, D, _⟩ := HS.out.rd
  have ck : ∀ W, Below w.heap.size w W → Calls Try.prog 19 #[.pointer (some ⟨db, 0, none⟩), .agg #[.int .i64 X.A.x, .int .i64 X.A.y], .agg #[.int .i64 X.B.x, .int .i64 X.B.y]] W fun e w' => e = .returned (.int .i64 (clashD L X.A X.B)) ∧ Below W.heap.size W w' := fun W hW => rclash_any db a0 c L.length L X.A X.B W (D.ext hW rfl)
  clear D hv0
  generalize clashD L X.A X.B = z at *
  have hz : (z == 0) = false := by simpa using hc
  clear hc
  go_enter Try.func11, Try.ntmps11
  go_wp2_with fail
  refine at_call fun W1 hW => ?_
  have Bw : Box W1 (w.heap.size) [.int .i64 X.A.x, .int .i64 X.A.y, .int .i64 X.B.x, .int .i64 X.B.y, .int .i64 X.K] 35 := by rw [hW]; exact Box.new rfl
  have hw : Below w.heap.size w W1 := by rw [hW]; go_grown
  clear hW
  refine (cm _).mono ?_
  rintro e w2 ⟨rfl, hb⟩
  replace Bw := Bw.ext hb rfl
  replace hw := hw.trans (hb.mono hw.size)
  clear hb
  obtain ⟨xw, yw, zw, vw⟩ := Bw.facts
  go_wp2_with fail
  refine at_call fun W3 hW => ?_
  replace Bw : Box W3 (w.heap.size) [.int .i64 X.A.x, .int .i64 X.A.y, .int .i64 X.B.x, .int .i64 X.B.y, .int .i64 X.K] 35 := by rw [hW]; exact Bw.old _
  replace hw : Below w.heap.size w W3 := by have hl := hw.size; rw [hW]; go_grown
  clear hW
  refine (ck _ hw).mono ?_
  rintro e w4 ⟨rfl, hb⟩
  clear xw yw zw vw
  replace Bw := Bw.ext hb rfl
  replace hw := hw.trans (hb.mono hw.size)
  clear hb
  obtain ⟨xw, yw, zw, vw⟩ := Bw.facts
  go_wp2
  go_ret
  exact ⟨z, v, L, rfl, HS.out.mk_ext (by have hl := hw.size; go_grown) HV.out HN.out⟩

set_option maxHeartbeats 1000000 in
theorem radd_3 (db : Nat) (v : Value) (L : List Wl) (X : Wl) (hL : L.length < 1000000) (hgk : ∀ x ∈ L, 0 ≤ x.K ∧ x.K ≤ 2) (hu : unm X = false) (hc : clashD L X.A X.B = 0) (w : World) (S : DocAt w db v L) :
    Calls Try.prog 11 #[.pointer (some ⟨db, 0, none⟩), .agg #[.int .i64 X.A.x, .int .i64 X.A.y, .int .i64 X.B.x, .int .i64 X.B.y, .int .i64 X.K]] w fun e w' => ∃ r v' L', e = .returned (.int .i64 r) ∧ AddAt L X r L' ∧ DocAt w' db v' L' ∧ Frm w w' (· = db) ∧ (∀ g, v'.ownBlock = some g → v.ownBlock = some g ∨ w.heap.size ≤ g) := by
  have HS := Lib.hid S
  clear S
  have HV : Hid (0 = addDE L X) := Lib.hid (by unfold addDE; rw [hu]; exact hc.symm)
  have HLn := Lib.hid hL
  have HG := Lib.hid hgk
  have HXK := Lib.hid (show 0 ≤ X.K ∧ X.K ≤ 2 by have := (mkOk_good hu).k; omega)
  clear hgk hL
  have ho : mkOk X.A X.B X.K = true := by unfold unm at hu; revert hu; cases mkOk X.A X.B X.K <;> simp
  have hq : weqI (mkW X.A X.B X.K).A.x (mkW X.A X.B X.K).A.y (mkW X.A X.B X.K).B.x (mkW X.A X.B X.K).B.y (mkW X.A X.B X.K).K X.A.x X.A.y X.B.x X.B.y X.K = true := by unfold unm at hu; rw [ho] at hu; rw [weqI_dec]; simpa using hu
  have cm := rmw_any X.A X.B X.K
  rw [ho] at cm
  clear ho hu
  generalize mkW X.A X.B X.K = W0 at *
  obtain ⟨a0, c, hv0, D, _⟩ := HS.out.rd
  have ck : ∀ W, Below w.heap.size w W → Calls Try.prog 19 #[.pointer (some ⟨db, 0, none⟩), .agg #[.int .i64 X.A.x, .int .i64 X.A.y], .agg #[.int .i64 X.B.x, .int .i64 X.B.y]] W fun e w' => e = .returned (.int .i64 (clashD L X.A X.B)) ∧ Below W.heap.size W w' := fun W hW => rclash_any db a0 c L.length L X.A X.B W (D.ext hW rfl)
  clear D hv0
  rw [hc] at ck
  clear hc
  go_enter Try.func11, Try.ntmps11
  go_wp2_with fail
  refine at_call fun W1 hW => ?_
  have Bw : Box W1 (w.heap.size) [.int .i64 X.A.x, .int .i64 X.A.y, .int .i64 X.B.x, .int .i64 X.B.y, .int .i64 X.K] 35 := by rw [hW]; exact Box.new rfl
  have hw : Below w.heap.size w W1 := by rw [hW]; go_grown
  clear hW
  refine (cm _).mono ?_
  rintro e w2 ⟨rfl, hb⟩
  replace Bw := Bw.ext hb rfl
  replace hw := hw.trans (hb.mono hw.size)
  clear hb
  obtain ⟨xw, yw, zw, vw⟩ := Bw.facts
  go_wp2_with fail
  refine at_call fun W3 hW => ?_
  replace Bw : Box W3 (w.heap.size) [.int .i64 X.A.x, .int .i64 X.A.y, .int .i64 X.B.x, .int .i64 X.B.y, .int .i64 X.K] 35 := by rw [hW]; exact Bw.old _
  replace hw : Below w.heap.size w W3 := by have hl := hw.size; rw [hW]; go_grown
  clear hW
  refine (ck _ hw).mono ?_
  rintro e w4 ⟨rfl, hb⟩
  clear xw yw zw vw
  replace Bw := Bw.ext hb rfl
  replace hw := hw.trans (hb.mono hw.size)
  clear hb
  obtain ⟨xw, yw, zw, vw⟩ := Bw.facts
  go_wp2_with fail
  have HW0 := Lib.hid hw
  refine (rput_any db v L X HLn.out HG.out HXK.out _ (HS.out.ext hw rfl)).mono ?_
  rintro e wq ⟨k, v', rfl, hp, S3, hf, hg⟩
  have hfr : Frm w wq (· = db) := (Frm.of_below HW0.out).trans hf
  have hge : ∀ g, v'.ownBlock = some g → v.ownBlock = some g ∨ w.heap.size ≤ g := fun g e => .inr (Nat.le_trans HW0.out.size (hg g e))
  clear hf hg xw yw zw vw Bw hw
  go_wp2
  go_ret
  exact ⟨0, v', _, rfl, ⟨HV.out, .inr ⟨rfl, k, hp, rfl⟩⟩, S3, hfr, hge⟩

theorem radd_any (db : Nat) (v : Value) (L : List Wl) (X : Wl) (hL : L.length < 1000000) (hgk : ∀ x ∈ L, 0 ≤ x.K ∧ x.K ≤ 2) (w : World) (S : DocAt w db v L) :
    Calls Try.prog 11 #[.pointer (some ⟨db, 0, none⟩), .agg #[.int .i64 X.A.x, .int .i64 X.A.y, .int .i64 X.B.x, .int .i64 X.B.y, .int .i64 X.K]] w fun e w' => ∃ r v' L', e = .returned (.int .i64 r) ∧ AddAt L X r L' ∧ DocAt w' db v' L' ∧ Frm w w' (· = db) ∧ (∀ g, v'.ownBlock = some g → v.ownBlock = some g ∨ w.heap.size ≤ g) := by
  cases hu : unm X with
  | true =>
    cases ho : mkOk X.A X.B X.K with
    | false => exact radd_0 db v L X ho w S
    | true => exact radd_1 db v L X ho hu w S
  | false =>
    by_cases hc : clashD L X.A X.B = 0
    · exact radd_3 db v L X hL hgk hu hc w S
    · exact radd_2 db v L X hu hc w S
end Go.Proofs.Ytnocdecimcpkfaa
