/- Put together: Alike, MesB, MesC. -/
import Derived.Test.YtaegobkkcgheeaaRows
import Derived.Test.YtaegobkkcgheeaaPut13
import Derived.Test.YtaegobkkcgheeaaPut12
import Derived.Test.YtaegobkkcgheeaaPut1
import Derived.WalkKit
import Derived.WalkSpells
import Derived.WalkLawsBesides
import Derived.Deep.QuietTactic
import Derived.BigQuiet
import Derived.Lib.Hide
import Derived.Handy
import Derived.Laws.Externs
import Derived.LoopN
import Derived.RegionTactic
namespace Go.Proofs.Ytaegobkkcgheeaa
open Go.RowKit Go.Sort
attribute [local go_sem] rOper rAt rUpon cell_set sg_i64 sg_u64 alloc_cell alloc_frozen
attribute [local go_sem 10000] pt_eql pt_neq tri_eql
attribute [local irreducible] rWalk

theorem tri_neq (s u : Tri3) (w : World) : (binOp .neq 25 (.agg #[.int .i64 s.A.x, .int .i64 s.A.y, .int .i64 s.B.x, .int .i64 s.B.y, .int .i64 s.C.x, .int .i64 s.C.y]) (.agg #[.int .i64 u.A.x, .int .i64 u.A.y, .int .i64 u.B.x, .int .i64 u.B.y, .int .i64 u.C.x, .int .i64 u.C.y])).run Try.prog w = .ok (.bool (!teq s u)) w := by
  unfold teq peqI
  by_cases h1 : s.A.x = u.A.x
  case neg => simp [go_sem, h1]
  case pos =>
  by_cases h2 : s.A.y = u.A.y
  case neg => simp [go_sem, h1, h2]
  case pos =>
  by_cases h3 : s.B.x = u.B.x
  case neg => simp [go_sem, h1, h2, h3]
  case pos =>
  by_cases h4 : s.B.y = u.B.y
  case neg => simp [go_sem, h1, h2, h3, h4]
  case pos =>
  by_cases h5 : s.C.x = u.C.x
  case neg => simp [go_sem, h1, h2, h3, h4, h5]
  case pos =>
  by_cases h6 : s.C.y = u.C.y
  · simp [go_sem, h1, h2, h3, h4, h5, h6]
  · simp [go_sem, h1, h2, h3, h4, h5, h6]
attribute [local go_sem 10000] tri_neq

set_option maxHeartbeats 400000 in
theorem alike_T (a1 a2 : Option Addr) (c1 c2 : Nat) (L1 L2 : List Tri3) (w : World) (h1 : RowAt cT 6 w a1 L1) (h2 : RowAt cT 6 w a2 L2) (hl1 : L1.length ≤ 1000000) :
    Calls Try.prog 44 #[.slice a1 L1.length c1, .slice a2 L2.length c2] w fun e w' => e = .returned (.bool (decide (L1 = L2))) ∧ Below w.heap.size w w' := by
  by_cases hl : L1.length = L2.length
  case neg =>
    have hne : L1 ≠ L2 := fun e => hl (by rw [e])
    have hd : decide (L1 = L2) = false := by simpa using hne
    rw [hd]
    have hb2 : ((L1.length : Int) != L2.length) = true := by rw [bne_iff_ne]; omega
    clear h1 h2 hne hd
    generalize L1.length = n1 at *
    generalize L2.length = n2 at *
    go_enter Try.func44, Try.ntmps44
    go_wp2
    go_ret
    exact ⟨rfl, Below.refl _ _⟩
  case pos =>
    obtain ⟨n, hn1⟩ : ∃ n, L1.length = n := ⟨_, rfl⟩
    have hn2 : L2.length = n := by rw [← hl, hn1]
    have hb2 : ((n : Int) != n) = false := by simp
    rw [hn1, hn2]
    have hn : n ≤ 1000000 := hn1 ▸ hl1
    have H1 := Lib.hid hn1
    have H2 := Lib.hid hn2
    clear hn1 hn2 hl hl1
    go_enter Try.func44, Try.ntmps44
    go_wp2
    go_loopw [5] (fun i wr => ∃ k : Nat, k ≤ n ∧ i = .int .i64 k ∧ Hid (L1.take k = L2.take k) ∧ Below w.heap.size w wr) (fun i _ => n - (intOf i).toNat)
    case atStart => exact ⟨0, Nat.zero_le _, rfl, Lib.hid rfl, Below.refl _ _⟩
    case round =>
      obtain ⟨k, hk, rfl, hT, hw⟩ := hrel
      by_cases hlt : k < n
      · have r1 := h1.ext hw rfl
        have r2 := h2.ext hw rfl
        obtain ⟨ad1, A1, ea1, eA1, _, _, q0, q1, q2, q3, q4, q5⟩ := r1.tri (j := k) (by rw [H1.out]; exact hlt)
        obtain ⟨ad2, A2, ea2, eA2, _, _, p0, p1, p2, p3, p4, p5⟩ := r2.tri (j := k) (by rw [H2.out]; exact hlt)
        clear r1 r2
        have e1 : L1[k]'(by rw [H1.out]; exact hlt) = L1[k]'(by rw [H1.out]; exact hlt) := rfl
        by_cases he : L1[k]'(by rw [H1.out]; exact hlt) = L2[k]'(by rw [H2.out]; exact hlt)
        · have hd : teq (L1[k]'(by rw [H1.out]; exact hlt)) (L2[k]'(by rw [H2.out]; exact hlt)) = true := teq_iff.2 he
          have HE := Lib.hid he
          clear he e1
          go_wp2
          go_quiet (fail)
          go_wp2
          go_roundw
          case rel => 
            refine ⟨k + 1, by omega, by go_num, Lib.hid ?_, ?_⟩
            · rw [List.take_succ_eq_append_getElem (by rw [H1.out]; exact hlt), List.take_succ_eq_append_getElem (by rw [H2.out]; exact hlt), hT.out, HE.out]
            · exact hw.trans ⟨rfl, rfl, rfl, Nat.le_refl _, fun _ _ => rfl⟩
          case measure => simp [intOf]; omega
        · have hd : teq (L1[k]'(by rw [H1.out]; exact hlt)) (L2[k]'(by rw [H2.out]; exact hlt)) = false := by rw [← Bool.not_eq_true, teq_iff]; exact he
          have hne : decide (L1 = L2) = false := by rw [decide_eq_false_iff_not]; intro e; subst e; exact he rfl
          have HN := Lib.hid hne
          clear he e1 hne
          go_wp2
          go_quiet (fail)
          go_wp2
          go_ret
          exact ⟨ret_bool HN.out.symm, hw.trans ⟨rfl, rfl, rfl, Nat.le_refl _, fun _ _ => rfl⟩⟩
      · have he : L1 = L2 := by
          have := hT.out
          rwa [List.take_of_length_le (by rw [H1.out]; omega), List.take_of_length_le (by rw [H2.out]; omega)] at this
        have hd : decide (L1 = L2) = true := by simpa using he
        have HN := Lib.hid hd
        clear he hd
        go_wp2
        go_ret
        exact ⟨ret_bool HN.out.symm, hw⟩
theorem peqI_pt {p q : Pt} : peqI p.x p.y q.x q.y = true ↔ p = q := peqI_iff.trans Pt.eq_iff.symm
set_option maxHeartbeats 400000 in
theorem alike_P (a1 a2 : Option Addr) (c1 c2 : Nat) (L1 L2 : List Pt) (w : World) (h1 : RowAt cP 2 w a1 L1) (h2 : RowAt cP 2 w a2 L2) (hl1 : L1.length ≤ 1000000) :
    Calls Try.prog 9 #[.slice a1 L1.length c1, .slice a2 L2.length c2] w fun e w' => e = .returned (.bool (decide (L1 = L2))) ∧ Below w.heap.size w w' := by
  by_cases hl : L1.length = L2.length
  case neg =>
    have hne : L1 ≠ L2 := fun e => hl (by rw [e])
    have hd : decide (L1 = L2) = false := by simpa using hne
    rw [hd]
    have hb2 : ((L1.length : Int) != L2.length) = true := by rw [bne_iff_ne]; omega
    clear h1 h2 hne hd
    generalize L1.length = n1 at *
    generalize L2.length = n2 at *
    go_enter Try.func9, Try.ntmps9
    go_wp2
    go_ret
    exact ⟨rfl, Below.refl _ _⟩
  case pos =>
    obtain ⟨n, hn1⟩ : ∃ n, L1.length = n := ⟨_, rfl⟩
    have hn2 : L2.length = n := by rw [← hl, hn1]
    have hb2 : ((n : Int) != n) = false := by simp
    rw [hn1, hn2]
    have hn : n ≤ 1000000 := hn1 ▸ hl1
    have H1 := Lib.hid hn1
    have H2 := Lib.hid hn2
    clear hn1 hn2 hl hl1
    go_enter Try.func9, Try.ntmps9
    go_wp2
    go_loopw [5] (fun i wr => ∃ k : Nat, k ≤ n ∧ i = .int .i64 k ∧ Hid (L1.take k = L2.take k) ∧ Below w.heap.size w wr) (fun i _ => n - (intOf i).toNat)
    case atStart => exact ⟨0, Nat.zero_le _, rfl, Lib.hid rfl, Below.refl _ _⟩
    case round =>
      obtain ⟨k, hk, rfl, hT, hw⟩ := hrel
      by_cases hlt : k < n
      · have r1 := h1.ext hw rfl
        have r2 := h2.ext hw rfl
        obtain ⟨ad1, A1, ea1, eA1, _, _, q0, q1⟩ := r1.pt (j := k) (by rw [H1.out]; exact hlt)
        obtain ⟨ad2, A2, ea2, eA2, _, _, p0, p1⟩ := r2.pt (j := k) (by rw [H2.out]; exact hlt)
        clear r1 r2
        have e1 : L1[k]'(by rw [H1.out]; exact hlt) = L1[k]'(by rw [H1.out]; exact hlt) := rfl
        by_cases he : L1[k]'(by rw [H1.out]; exact hlt) = L2[k]'(by rw [H2.out]; exact hlt)
        · have hd : peqI (L1[k]'(by rw [H1.out]; exact hlt)).x (L1[k]'(by rw [H1.out]; exact hlt)).y (L2[k]'(by rw [H2.out]; exact hlt)).x (L2[k]'(by rw [H2.out]; exact hlt)).y = true := peqI_pt.2 he
          have HE := Lib.hid he
          clear he e1
          go_wp2
          go_quiet (fail)
          go_wp2
          go_roundw
          case rel => 
            refine ⟨k + 1, by omega, by go_num, Lib.hid ?_, ?_⟩
            · rw [List.take_succ_eq_append_getElem (by rw [H1.out]; exact hlt), List.take_succ_eq_append_getElem (by rw [H2.out]; exact hlt), hT.out, HE.out]
            · exact hw.trans ⟨rfl, rfl, rfl, Nat.le_refl _, fun _ _ => rfl⟩
          case measure => simp [intOf]; omega
        · have hd : peqI (L1[k]'(by rw [H1.out]; exact hlt)).x (L1[k]'(by rw [H1.out]; exact hlt)).y (L2[k]'(by rw [H2.out]; exact hlt)).x (L2[k]'(by rw [H2.out]; exact hlt)).y = false := by rw [← Bool.not_eq_true, peqI_pt]; exact he
          have hne : decide (L1 = L2) = false := by rw [decide_eq_false_iff_not]; intro e; subst e; exact he rfl
          have HN := Lib.hid hne
          clear he e1 hne
          go_wp2
          go_quiet (fail)
          go_wp2
          go_ret
          exact ⟨ret_bool HN.out.symm, hw.trans ⟨rfl, rfl, rfl, Nat.le_refl _, fun _ _ => rfl⟩⟩
      · have he : L1 = L2 := by
          have := hT.out
          rwa [List.take_of_length_le (by rw [H1.out]; omega), List.take_of_length_le (by rw [H2.out]; omega)] at this
        have hd : decide (L1 = L2) = true := by simpa using he
        have HN := Lib.hid hd
        clear he hd
        go_wp2
        go_ret
        exact ⟨ret_bool HN.out.symm, hw⟩
end Go.Proofs.Ytaegobkkcgheeaa

namespace Go.Proofs.Ytaegobkkcgheeaa
open Go.RowKit Go.Sort
attribute [local go_sem] rOper rAt rUpon cell_set sg_i64 sg_u64 alloc_cell alloc_frozen
attribute [local go_sem 10000] pt_eql pt_neq tri_eql
attribute [local irreducible] rWalk


theorem zero_tri (w : World) : (zeroValue 25).run Try.prog w = .ok (.agg #[.int .i64 0, .int .i64 0, .int .i64 0, .int .i64 0, .int .i64 0, .int .i64 0]) w := by kernel_rfl
theorem HoldsMap.look_some {P : Program} {k e t : TypeId} {eK : Pt × Pt → Value} {ok : Pt × Pt → Prop} {w : World} {b : Nat} {E : List ((Pt × Pt) × Tri3)} (h : HoldsMap eK eT ok w b E) (V : KV P k e t eK ok) {z : Value} (hz : ∀ w, (zeroValue e).run P w = .ok z w) {x : Pt × Pt} (hx : ok x) {v : Tri3} (hg : getE E x = some v) :
    (Instr.lookup t (.map (some b)) (eK x) true).run P w = .ok (.tuple #[eT v, .bool true]) w := by
  rw [h.look V (hz w) hx, hg]
theorem HoldsMap.look_none {P : Program} {k e t : TypeId} {eK : Pt × Pt → Value} {ok : Pt × Pt → Prop} {w : World} {b : Nat} {E : List ((Pt × Pt) × Tri3)} (h : HoldsMap eK eT ok w b E) (V : KV P k e t eK ok) {z : Value} (hz : ∀ w, (zeroValue e).run P w = .ok z w) {x : Pt × Pt} (hx : ok x) (hg : getE E x = none) :
    (Instr.lookup t (.map (some b)) (eK x) true).run P w = .ok (.tuple #[z, .bool false]) w := by
  rw [h.look V (hz w) hx, hg]
/-- What stands left of a way. -/
def lftE (E : List ((Pt × Pt) × Tri3)) (p q : Pt) : Tri3 × Bool := match getE E (p, q) with | some t => (t, true) | none => (⟨⟨0, 0⟩, ⟨0, 0⟩, ⟨0, 0⟩⟩, false)
theorem lftE_some {E : List ((Pt × Pt) × Tri3)} {p q : Pt} {t : Tri3} (h : getE E (p, q) = some t) : lftE E p q = (t, true) := by unfold lftE; rw [h]
theorem lftE_none {E : List ((Pt × Pt) × Tri3)} {p q : Pt} (h : getE E (p, q) = none) : lftE E p q = (⟨⟨0, 0⟩, ⟨0, 0⟩, ⟨0, 0⟩⟩, false) := by unfold lftE; rw [h]
theorem crn0 (T : Tri3) : crn T 0 = T.A := rfl
theorem crn1 (T : Tri3) : crn T 1 = T.B := rfl
theorem crn2 (T : Tri3) : crn T 2 = T.C := rfl
theorem way_any (T : Tri3) (i : Int) (w : World) :
    Calls Try.prog 62 #[.agg #[.int .i64 T.A.x, .int .i64 T.A.y, .int .i64 T.B.x, .int .i64 T.B.y, .int .i64 T.C.x, .int .i64 T.C.y], .int .i64 i] w fun e w' => e = .returned (.agg #[.int .i64 (crn T i).x, .int .i64 (crn T i).y, .int .i64 (crn T (i + 1)).x, .int .i64 (crn T (i + 1)).y]) ∧ Below w.heap.size w w' := by
  have ce := edge_any T i
  generalize crn T i = P at *
  generalize crn T (i + 1) = Q at *
  go_enter Try.func62, Try.ntmps62
  go_wp2_with fail
  refine at_call fun W1 hW => ?_
  have Bt : Box W1 (w.heap.size) [.int .i64 T.A.x, .int .i64 T.A.y, .int .i64 T.B.x, .int .i64 T.B.y, .int .i64 T.C.x, .int .i64 T.C.y] 25 := by rw [hW]; exact (Box.new rfl).old _
  have Br : Box W1 (w.heap.size + 1) [.int .i64 0, .int .i64 0, .int .i64 0, .int .i64 0] 73 := by rw [hW]; exact Box.new (by simp)
  have hw : Below w.heap.size w W1 := by rw [hW]; go_grown
  clear hW
  refine (ce _).mono ?_
  rintro e w2 ⟨rfl, hb⟩
  replace Bt := Bt.ext hb rfl
  replace Br := Br.ext hb rfl
  replace hw := hw.trans (hb.mono hw.size)
  clear hb
  obtain ⟨xt, yt, zt, vt⟩ := Bt.facts
  obtain ⟨xr, yr, zr, vr⟩ := Br.facts
  go_wp2_with fail
  refine bodyPost_ret (v := .agg #[.int .i64 P.x, .int .i64 P.y, .int .i64 Q.x, .int .i64 Q.y]) (by simp [results, Try.results62, go_sem, xr, zr, zt]) rfl ⟨rfl, by have hl := hw.size; go_grown⟩

set_option maxRecDepth 100000 in
set_option maxHeartbeats 1000000 in
theorem left_1 (mb b : Nat) (E : List ((Pt × Pt) × Tri3)) (p q : Pt) (T : Tri3) (hg : getE E (p, q) = some T) (hk : okW (p, q)) (w : World) (Bm : Box w mb [.map (some b)] 65) (Hm : HoldsMap eW eT okW w b E) :
    Calls Try.prog 20 #[.pointer (some ⟨mb, 0, none⟩), .agg #[.int .i64 p.x, .int .i64 p.y], .agg #[.int .i64 q.x, .int .i64 q.y]] w fun e w' => e = .returned (.tuple #[.agg #[.int .i64 T.A.x, .int .i64 T.A.y, .int .i64 T.B.x, .int .i64 T.B.y, .int .i64 T.C.x, .int .i64 T.C.y], .bool true]) ∧ Below w.heap.size w w' := by
  go_enter Try.func20, Try.ntmps20
  go_wp2_with fail
  refine at_world fun W1 hW => ?_
  have Bp : Box W1 (w.heap.size) [.int .i64 p.x, .int .i64 p.y] 23 := by rw [hW]; exact ((Box.new rfl).old _).old _
  have Bq : Box W1 (w.heap.size + 1) [.int .i64 q.x, .int .i64 q.y] 23 := by rw [hW]; exact (Box.new (by simp)).old _
  have Br : Box W1 (w.heap.size + 1 + 1) [.int .i64 0, .int .i64 0, .int .i64 0, .int .i64 0, .int .i64 0, .int .i64 0] 25 := by rw [hW]; exact Box.new (by simp)
  have hw : Below w.heap.size w W1 := by rw [hW]; go_grown
  clear hW
  have BM : Box W1 (mb) [.map (some b)] 65 := Bm.ext hw rfl
  have hl : ∀ d os, (Instr.lookup 63 (.map (some b)) (.agg #[.int .i64 p.x, .int .i64 p.y, .int .i64 q.x, .int .i64 q.y]) true).run Try.prog (grow (redrawn W1 d) os) = .ok (.tuple #[.agg #[.int .i64 T.A.x, .int .i64 T.A.y, .int .i64 T.B.x, .int .i64 T.B.y, .int .i64 T.C.x, .int .i64 T.C.y], .bool true]) (grow (redrawn W1 d) os) := fun d os => ((Hm.ext hw rfl).ext (below_regrown W1 d os) rfl).look_some kvM zero_tri hk hg
  clear hg
  have gp := Bp.cells
  have gq := Bq.cells
  have gr := Br.cells
  have gM := BM.cells
  refine wp_region_lateG2 11 8 22 [.int .i64 T.A.x, .int .i64 T.A.y, .int .i64 T.B.x, .int .i64 T.B.y, .int .i64 T.C.x, .int .i64 T.C.y] (zs := [.int .i64 0, .int .i64 0, .int .i64 0, .int .i64 0, .int .i64 0, .int .i64 0]) (eff := eff6 (.int .i64 T.A.x) (.int .i64 T.A.y) (.int .i64 T.B.x) (.int .i64 T.B.y) (.int .i64 T.C.x) (.int .i64 T.C.y)) eff6_spec rfl rfl rfl rfl rfl rfl rfl (by simp) (fun ρ W => by simp [execOp, go_sem]; rfl) (by kernel_rfl) (by as_aux_lemma => kernel_rfl) (C := fun w' => ∃ p : Regrown, w' = grow (redrawn W1 p.d) p.os) (fun w' h => regrown_of_below h) ?_ (fun ρ W b e1 e2 hB => by obtain ⟨x, y, _, _⟩ := hB.facts; simp [execOp, go_sem, e1, e2, x, y, eff6])
  simp only [List.take_succ_cons, List.take_zero, List.drop_succ_cons, List.drop_zero]
  repeat (first | (refine rWalk_skip (Eq.refl false) ?_; simp only [Act.put, List.setIfInBounds_toArray, List.set_cons_succ, List.set_cons_zero]) | (refine rWalk_step (fun K hK => ?_); go_simp; first | (refine hK _ ?_; clear hK K) | (apply Exists.intro; refine ⟨fun _ => ?_, hK _ ?_⟩; (first | fail); clear hK K)))
  refine rWalk_nil ⟨rfl, ?_⟩
  intro w2 bks hb h1b h2b Bs
  have lps := Bp.lt
  have lqs := Bq.lt
  have lrs := Br.lt
  have lMs := BM.lt
  have hw0z := hw.size
  clear gp gq gr gM
  replace Bp := Bp.ext hb rfl
  replace Bq := Bq.ext hb rfl
  replace Br := Br.ext hb rfl
  replace BM := BM.ext hb rfl
  replace hw := hw.trans (hb.mono hw.size)
  have fs := h1b
  have hwz : w.heap.size ≤ W1.heap.size := hw0z
  clear hb h1b h2b hw0z
  simp only [Act.put]
  clear hl
  obtain ⟨xp, yp, zp, vp⟩ := Bp.facts
  obtain ⟨xq, yq, zq, vq⟩ := Bq.facts
  obtain ⟨xr, yr, zr, vr⟩ := Br.facts
  obtain ⟨xM, yM, zM, vM⟩ := BM.facts
  obtain ⟨xs, ys, zs, vs⟩ := Bs.facts
  go_wp2_with fail
  refine bodyPost_ret (v := .tuple #[.agg #[.int .i64 T.A.x, .int .i64 T.A.y, .int .i64 T.B.x, .int .i64 T.B.y, .int .i64 T.C.x, .int .i64 T.C.y], .bool true]) (by simp [results, Try.results20, go_sem, xr]) rfl ⟨rfl, by have hl := hw.size; go_grown⟩

set_option maxRecDepth 100000 in
set_option maxHeartbeats 1000000 in
theorem left_0 (mb b : Nat) (E : List ((Pt × Pt) × Tri3)) (p q : Pt) (hg : getE E (p, q) = none) (hk : okW (p, q)) (w : World) (Bm : Box w mb [.map (some b)] 65) (Hm : HoldsMap eW eT okW w b E) :
    Calls Try.prog 20 #[.pointer (some ⟨mb, 0, none⟩), .agg #[.int .i64 p.x, .int .i64 p.y], .agg #[.int .i64 q.x, .int .i64 q.y]] w fun e w' => e = .returned (.tuple #[.agg #[.int .i64 0, .int .i64 0, .int .i64 0, .int .i64 0, .int .i64 0, .int .i64 0], .bool false]) ∧ Below w.heap.size w w' := by
  go_enter Try.func20, Try.ntmps20
  go_wp2_with fail
  refine at_world fun W1 hW => ?_
  have Bp : Box W1 (w.heap.size) [.int .i64 p.x, .int .i64 p.y] 23 := by rw [hW]; exact ((Box.new rfl).old _).old _
  have Bq : Box W1 (w.heap.size + 1) [.int .i64 q.x, .int .i64 q.y] 23 := by rw [hW]; exact (Box.new (by simp)).old _
  have Br : Box W1 (w.heap.size + 1 + 1) [.int .i64 0, .int .i64 0, .int .i64 0, .int .i64 0, .int .i64 0, .int .i64 0] 25 := by rw [hW]; exact Box.new (by simp)
  have hw : Below w.heap.size w W1 := by rw [hW]; go_grown
  clear hW
  have BM : Box W1 (mb) [.map (some b)] 65 := Bm.ext hw rfl
  have hl : ∀ d os, (Instr.lookup 63 (.map (some b)) (.agg #[.int .i64 p.x, .int .i64 p.y, .int .i64 q.x, .int .i64 q.y]) true).run Try.prog (grow (redrawn W1 d) os) = .ok (.tuple #[.agg #[.int .i64 0, .int .i64 0, .int .i64 0, .int .i64 0, .int .i64 0, .int .i64 0], .bool false]) (grow (redrawn W1 d) os) := fun d os => ((Hm.ext hw rfl).ext (below_regrown W1 d os) rfl).look_none kvM zero_tri hk hg
  clear hg
  have gp := Bp.cells
  have gq := Bq.cells
  have gr := Br.cells
  have gM := BM.cells
  refine wp_region_lateG2 11 8 22 [.int .i64 0, .int .i64 0, .int .i64 0, .int .i64 0, .int .i64 0, .int .i64 0] (zs := [.int .i64 0, .int .i64 0, .int .i64 0, .int .i64 0, .int .i64 0, .int .i64 0]) (eff := eff6 (.int .i64 0) (.int .i64 0) (.int .i64 0) (.int .i64 0) (.int .i64 0) (.int .i64 0)) eff6_spec rfl rfl rfl rfl rfl rfl rfl (by simp) (fun ρ W => by simp [execOp, go_sem]; rfl) (by kernel_rfl) (by as_aux_lemma => kernel_rfl) (C := fun w' => ∃ p : Regrown, w' = grow (redrawn W1 p.d) p.os) (fun w' h => regrown_of_below h) ?_ (fun ρ W b e1 e2 hB => by obtain ⟨x, y, _, _⟩ := hB.facts; simp [execOp, go_sem, e1, e2, x, y, eff6])
  simp only [List.take_succ_cons, List.take_zero, List.drop_succ_cons, List.drop_zero]
  repeat (first | (refine rWalk_skip (Eq.refl false) ?_; simp only [Act.put, List.setIfInBounds_toArray, List.set_cons_succ, List.set_cons_zero]) | (refine rWalk_step (fun K hK => ?_); go_simp; first | (refine hK _ ?_; clear hK K) | (apply Exists.intro; refine ⟨fun _ => ?_, hK _ ?_⟩; (first | fail); clear hK K)))
  refine rWalk_nil ⟨rfl, ?_⟩
  intro w2 bks hb h1b h2b Bs
  have lps := Bp.lt
  have lqs := Bq.lt
  have lrs := Br.lt
  have lMs := BM.lt
  have hw0z := hw.size
  clear gp gq gr gM
  replace Bp := Bp.ext hb rfl
  replace Bq := Bq.ext hb rfl
  replace Br := Br.ext hb rfl
  replace BM := BM.ext hb rfl
  replace hw := hw.trans (hb.mono hw.size)
  have fs := h1b
  have hwz : w.heap.size ≤ W1.heap.size := hw0z
  clear hb h1b h2b hw0z
  simp only [Act.put]
  clear hl
  obtain ⟨xp, yp, zp, vp⟩ := Bp.facts
  obtain ⟨xq, yq, zq, vq⟩ := Bq.facts
  obtain ⟨xr, yr, zr, vr⟩ := Br.facts
  obtain ⟨xM, yM, zM, vM⟩ := BM.facts
  obtain ⟨xs, ys, zs, vs⟩ := Bs.facts
  go_wp2_with fail
  refine bodyPost_ret (v := .tuple #[.agg #[.int .i64 0, .int .i64 0, .int .i64 0, .int .i64 0, .int .i64 0, .int .i64 0], .bool false]) (by simp [results, Try.results20, go_sem, xr]) rfl ⟨rfl, by have hl := hw.size; go_grown⟩

theorem left_any (mb b : Nat) (E : List ((Pt × Pt) × Tri3)) (p q : Pt) (hk : okW (p, q)) (w : World) (Bm : Box w mb [.map (some b)] 65) (Hm : HoldsMap eW eT okW w b E) :
    Calls Try.prog 20 #[.pointer (some ⟨mb, 0, none⟩), .agg #[.int .i64 p.x, .int .i64 p.y], .agg #[.int .i64 q.x, .int .i64 q.y]] w fun e w' => e = .returned (.tuple #[eT (lftE E p q).1, .bool (lftE E p q).2]) ∧ Below w.heap.size w w' := by
  cases h : getE E (p, q) with
  | none => rw [lftE_none h]; exact left_0 mb b E p q h hk w Bm Hm
  | some t => rw [lftE_some h]; exact left_1 mb b E p q t h hk w Bm Hm
end Go.Proofs.Ytaegobkkcgheeaa

namespace Go.Proofs.Ytaegobkkcgheeaa
open Go.RowKit Go.Sort
attribute [local go_sem] rOper rAt rUpon cell_set sg_i64 sg_u64 alloc_cell alloc_frozen
attribute [local go_sem 10000] pt_eql pt_neq tri_eql
attribute [local irreducible] rWalk


def hasE (E : List ((Pt × Pt) × Tri3)) (T : Tri3) : Bool := match getE E (T.A, T.B) with | some s => teq s T | none => false
def fitsE (E : List ((Pt × Pt) × Tri3)) (T : Tri3) : Bool := (getE E (T.A, T.B)).isNone && ((getE E (T.B, T.C)).isNone && ((getE E (T.C, T.A)).isNone && valT T))
theorem okT_w {T : Tri3} (h : okT T) : okW (T.A, T.B) ∧ okW (T.B, T.C) ∧ okW (T.C, T.A) := ⟨⟨h.1, h.2.1⟩, ⟨h.2.1, h.2.2⟩, ⟨h.2.2, h.1⟩⟩
theorem way_0 (T : Tri3) (w : World) : Calls Try.prog 62 #[.agg #[.int .i64 T.A.x, .int .i64 T.A.y, .int .i64 T.B.x, .int .i64 T.B.y, .int .i64 T.C.x, .int .i64 T.C.y], .int .i64 0] w fun e w' => e = .returned (.agg #[.int .i64 T.A.x, .int .i64 T.A.y, .int .i64 T.B.x, .int .i64 T.B.y]) ∧ Below w.heap.size w w' := way_any T 0 w
theorem way_1 (T : Tri3) (w : World) : Calls Try.prog 62 #[.agg #[.int .i64 T.A.x, .int .i64 T.A.y, .int .i64 T.B.x, .int .i64 T.B.y, .int .i64 T.C.x, .int .i64 T.C.y], .int .i64 1] w fun e w' => e = .returned (.agg #[.int .i64 T.B.x, .int .i64 T.B.y, .int .i64 T.C.x, .int .i64 T.C.y]) ∧ Below w.heap.size w w' := way_any T 1 w
theorem way_2 (T : Tri3) (w : World) : Calls Try.prog 62 #[.agg #[.int .i64 T.A.x, .int .i64 T.A.y, .int .i64 T.B.x, .int .i64 T.B.y, .int .i64 T.C.x, .int .i64 T.C.y], .int .i64 2] w fun e w' => e = .returned (.agg #[.int .i64 T.C.x, .int .i64 T.C.y, .int .i64 T.A.x, .int .i64 T.A.y]) ∧ Below w.heap.size w w' := way_any T 2 w
set_option maxRecDepth 100000 in
set_option maxHeartbeats 1000000 in
theorem mhas_1 (mb b : Nat) (E : List ((Pt × Pt) × Tri3)) (T : Tri3) (S : Tri3) (hg : getE E (T.A, T.B) = some S) (hk : okT T) (w : World) (Bm : Box w mb [.map (some b)] 65) (Hm : HoldsMap eW eT okW w b E) :
    Calls Try.prog 23 #[.pointer (some ⟨mb, 0, none⟩), .agg #[.int .i64 T.A.x, .int .i64 T.A.y, .int .i64 T.B.x, .int .i64 T.B.y, .int .i64 T.C.x, .int .i64 T.C.y]] w fun e w' => e = .returned (.bool (teq S T)) ∧ Below w.heap.size w w' := by
  go_enter Try.func23, Try.ntmps23
  go_wp2_with fail
  refine at_call fun W1 hW => ?_
  have Bt : Box W1 (w.heap.size) [.int .i64 T.A.x, .int .i64 T.A.y, .int .i64 T.B.x, .int .i64 T.B.y, .int .i64 T.C.x, .int .i64 T.C.y] 25 := by rw [hW]; exact Box.new rfl
  have hw : Below w.heap.size w W1 := by rw [hW]; go_grown
  clear hW
  refine (left_1 mb b E T.A T.B S hg (okT_w hk).1 _ (Bm.ext hw rfl) (Hm.ext hw rfl)).mono ?_
  rintro e w2 ⟨rfl, hb⟩
  replace Bt := Bt.ext hb rfl
  replace hw := hw.trans (hb.mono hw.size)
  clear hb
  clear hg hk
  obtain ⟨xt, yt, zt, vt⟩ := Bt.facts
  go_wp2
  go_ret
  exact ⟨rfl, by have hl := hw.size; go_grown⟩

set_option maxRecDepth 100000 in
set_option maxHeartbeats 1000000 in
theorem mhas_0 (mb b : Nat) (E : List ((Pt × Pt) × Tri3)) (T : Tri3) (hg : getE E (T.A, T.B) = none) (hk : okT T) (w : World) (Bm : Box w mb [.map (some b)] 65) (Hm : HoldsMap eW eT okW w b E) :
    Calls Try.prog 23 #[.pointer (some ⟨mb, 0, none⟩), .agg #[.int .i64 T.A.x, .int .i64 T.A.y, .int .i64 T.B.x, .int .i64 T.B.y, .int .i64 T.C.x, .int .i64 T.C.y]] w fun e w' => e = .returned (.bool false) ∧ Below w.heap.size w w' := by
  go_enter Try.func23, Try.ntmps23
  go_wp2_with fail
  refine at_call fun W1 hW => ?_
  have Bt : Box W1 (w.heap.size) [.int .i64 T.A.x, .int .i64 T.A.y, .int .i64 T.B.x, .int .i64 T.B.y, .int .i64 T.C.x, .int .i64 T.C.y] 25 := by rw [hW]; exact Box.new rfl
  have hw : Below w.heap.size w W1 := by rw [hW]; go_grown
  clear hW
  refine (left_0 mb b E T.A T.B hg (okT_w hk).1 _ (Bm.ext hw rfl) (Hm.ext hw rfl)).mono ?_
  rintro e w2 ⟨rfl, hb⟩
  replace Bt := Bt.ext hb rfl
  replace hw := hw.trans (hb.mono hw.size)
  clear hb
  clear hg hk
  obtain ⟨xt, yt, zt, vt⟩ := Bt.facts
  go_wp2
  go_ret
  exact ⟨rfl, by have hl := hw.size; go_grown⟩

theorem mhas_any (mb b : Nat) (E : List ((Pt × Pt) × Tri3)) (T : Tri3) (hk : okT T) (w : World) (Bm : Box w mb [.map (some b)] 65) (Hm : HoldsMap eW eT okW w b E) :
    Calls Try.prog 23 #[.pointer (some ⟨mb, 0, none⟩), .agg #[.int .i64 T.A.x, .int .i64 T.A.y, .int .i64 T.B.x, .int .i64 T.B.y, .int .i64 T.C.x, .int .i64 T.C.y]] w fun e w' => e = .returned (.bool (hasE E T)) ∧ Below w.heap.size w w' := by
  cases h : getE E (T.A, T.B) with
  | none => rw [show hasE E T = false by unfold hasE; rw [h]]; exact mhas_0 mb b E T h hk w Bm Hm
  | some S => rw [show hasE E T = teq S T by unfold hasE; rw [h]]; exact mhas_1 mb b E T S h hk w Bm Hm
set_option maxRecDepth 100000 in
set_option maxHeartbeats 1000000 in
theorem fits_0 (mb b : Nat) (E : List ((Pt × Pt) × Tri3)) (T : Tri3) (S : Tri3) (hg0 : getE E (T.A, T.B) = some S) (hk : okT T) (w : World) (Bm : Box w mb [.map (some b)] 65) (Hm : HoldsMap eW eT okW w b E) :
    Calls Try.prog 61 #[.pointer (some ⟨mb, 0, none⟩), .agg #[.int .i64 T.A.x, .int .i64 T.A.y, .int .i64 T.B.x, .int .i64 T.B.y, .int .i64 T.C.x, .int .i64 T.C.y]] w fun e w' => e = .returned (.bool false) ∧ Below w.heap.size w w' := by
  go_enter Try.func61, Try.ntmps61
  go_wp2_with fail
  refine at_world fun W1 hW => ?_
  have Bt : Box W1 (w.heap.size) [.int .i64 T.A.x, .int .i64 T.A.y, .int .i64 T.B.x, .int .i64 T.B.y, .int .i64 T.C.x, .int .i64 T.C.y] 25 := by rw [hW]; exact Box.new rfl
  have hw : Below w.heap.size w W1 := by rw [hW]; go_grown
  clear hW
  have BM : Box W1 (mb) [.map (some b)] 65 := Bm.ext hw rfl
  refine wp_loop_rounds 5 ?_
  try rw [rounds_succ]
  obtain ⟨xt, yt, zt, vt⟩ := Bt.facts
  obtain ⟨xM, yM, zM, vM⟩ := BM.facts
  go_wp2_with fail
  have hl : ∀ d os, (Instr.lookup 63 (.map (some b)) (.agg #[.int .i64 T.A.x, .int .i64 T.A.y, .int .i64 T.B.x, .int .i64 T.B.y]) true).run Try.prog (grow (redrawn W1 d) os) = .ok (.tuple #[.agg #[.int .i64 S.A.x, .int .i64 S.A.y, .int .i64 S.B.x, .int .i64 S.B.y, .int .i64 S.C.x, .int .i64 S.C.y], .bool true]) (grow (redrawn W1 d) os) := fun d os => ((Hm.ext hw rfl).ext (below_regrown W1 d os) rfl).look_some kvM zero_tri (okT_w hk).1 hg0
  clear hg0
  have gt := Bt.cells
  have gM := BM.cells
  refine wp_region_lateG2 11 6 20 [.int .i64 S.A.x, .int .i64 S.A.y, .int .i64 S.B.x, .int .i64 S.B.y, .int .i64 S.C.x, .int .i64 S.C.y] (zs := [.int .i64 0, .int .i64 0, .int .i64 0, .int .i64 0, .int .i64 0, .int .i64 0]) (eff := eff6 (.int .i64 S.A.x) (.int .i64 S.A.y) (.int .i64 S.B.x) (.int .i64 S.B.y) (.int .i64 S.C.x) (.int .i64 S.C.y)) eff6_spec rfl rfl rfl rfl rfl rfl rfl (by simp) (fun ρ W => by simp [execOp, go_sem]; rfl) (by kernel_rfl) (by as_aux_lemma => kernel_rfl) (C := fun w' => ∃ p : Regrown, w' = grow (redrawn W1 p.d) p.os) (fun w' h => regrown_of_below h) ?_ (fun ρ W b e1 e2 hB => by obtain ⟨x, y, _, _⟩ := hB.facts; simp [execOp, go_sem, e1, e2, x, y, eff6])
  simp only [List.take_succ_cons, List.take_zero, List.drop_succ_cons, List.drop_zero]
  repeat (first | (refine rWalk_skip (Eq.refl false) ?_; simp only [Act.put, List.setIfInBounds_toArray, List.set_cons_succ, List.set_cons_zero]) | (refine rWalk_step (fun K hK => ?_); go_simp; first | (refine hK _ ?_; clear hK K) | (apply Exists.intro; refine ⟨fun _ => ?_, hK _ ?_⟩; (first | with_reducible exact toExt (way_0 T) _); clear hK K)))
  refine rWalk_nil ⟨rfl, ?_⟩
  intro w2 bks0 hb h1b h2b Bs0
  have lts0 := Bt.lt
  have lMs0 := BM.lt
  have hw0z := hw.size
  clear gt gM
  clear xt yt zt vt xM yM zM vM
  replace Bt := Bt.ext hb rfl
  replace BM := BM.ext hb rfl
  replace hw := hw.trans (hb.mono hw.size)
  have fs0 := h1b
  have hwz : w.heap.size ≤ W1.heap.size := hw0z
  clear hb h1b h2b hw0z
  simp only [Act.put]
  clear hl
  obtain ⟨xt, yt, zt, vt⟩ := Bt.facts
  obtain ⟨xM, yM, zM, vM⟩ := BM.facts
  obtain ⟨xs0, ys0, zs0, vs0⟩ := Bs0.facts
  go_wp2
  go_ret
  exact ⟨rfl, hw⟩

set_option maxRecDepth 100000 in
set_option maxHeartbeats 1000000 in
theorem fits_1 (mb b : Nat) (E : List ((Pt × Pt) × Tri3)) (T : Tri3) (S : Tri3) (hg0 : getE E (T.A, T.B) = none) (hg1 : getE E (T.B, T.C) = some S) (hk : okT T) (w : World) (Bm : Box w mb [.map (some b)] 65) (Hm : HoldsMap eW eT okW w b E) :
    Calls Try.prog 61 #[.pointer (some ⟨mb, 0, none⟩), .agg #[.int .i64 T.A.x, .int .i64 T.A.y, .int .i64 T.B.x, .int .i64 T.B.y, .int .i64 T.C.x, .int .i64 T.C.y]] w fun e w' => e = .returned (.bool false) ∧ Below w.heap.size w w' := by
  go_enter Try.func61, Try.ntmps61
  go_wp2_with fail
  refine at_world fun W1 hW => ?_
  have Bt : Box W1 (w.heap.size) [.int .i64 T.A.x, .int .i64 T.A.y, .int .i64 T.B.x, .int .i64 T.B.y, .int .i64 T.C.x, .int .i64 T.C.y] 25 := by rw [hW]; exact Box.new rfl
  have hw : Below w.heap.size w W1 := by rw [hW]; go_grown
  clear hW
  have BM : Box W1 (mb) [.map (some b)] 65 := Bm.ext hw rfl
  refine wp_loop_rounds 5 ?_
  try rw [rounds_succ]
  obtain ⟨xt, yt, zt, vt⟩ := Bt.facts
  obtain ⟨xM, yM, zM, vM⟩ := BM.facts
  go_wp2_with fail
  have hl : ∀ d os, (Instr.lookup 63 (.map (some b)) (.agg #[.int .i64 T.A.x, .int .i64 T.A.y, .int .i64 T.B.x, .int .i64 T.B.y]) true).run Try.prog (grow (redrawn W1 d) os) = .ok (.tuple #[.agg #[.int .i64 0, .int .i64 0, .int .i64 0, .int .i64 0, .int .i64 0, .int .i64 0], .bool false]) (grow (redrawn W1 d) os) := fun d os => ((Hm.ext hw rfl).ext (below_regrown W1 d os) rfl).look_none kvM zero_tri (okT_w hk).1 hg0
  clear hg0
  have gt := Bt.cells
  have gM := BM.cells
  refine wp_region_lateG2 11 6 20 [.int .i64 0, .int .i64 0, .int .i64 0, .int .i64 0, .int .i64 0, .int .i64 0] (zs := [.int .i64 0, .int .i64 0, .int .i64 0, .int .i64 0, .int .i64 0, .int .i64 0]) (eff := eff6 (.int .i64 0) (.int .i64 0) (.int .i64 0) (.int .i64 0) (.int .i64 0) (.int .i64 0)) eff6_spec rfl rfl rfl rfl rfl rfl rfl (by simp) (fun ρ W => by simp [execOp, go_sem]; rfl) (by kernel_rfl) (by as_aux_lemma => kernel_rfl) (C := fun w' => ∃ p : Regrown, w' = grow (redrawn W1 p.d) p.os) (fun w' h => regrown_of_below h) ?_ (fun ρ W b e1 e2 hB => by obtain ⟨x, y, _, _⟩ := hB.facts; simp [execOp, go_sem, e1, e2, x, y, eff6])
  simp only [List.take_succ_cons, List.take_zero, List.drop_succ_cons, List.drop_zero]
  repeat (first | (refine rWalk_skip (Eq.refl false) ?_; simp only [Act.put, List.setIfInBounds_toArray, List.set_cons_succ, List.set_cons_zero]) | (refine rWalk_step (fun K hK => ?_); go_simp; first | (refine hK _ ?_; clear hK K) | (apply Exists.intro; refine ⟨fun _ => ?_, hK _ ?_⟩; (first | with_reducible exact toExt (way_0 T) _); clear hK K)))
  refine rWalk_nil ⟨rfl, ?_⟩
  intro w2 bks0 hb h1b h2b Bs0
  have lts0 := Bt.lt
  have lMs0 := BM.lt
  have hw0z := hw.size
  clear gt gM
  clear xt yt zt vt xM yM zM vM
  replace Bt := Bt.ext hb rfl
  replace BM := BM.ext hb rfl
  replace hw := hw.trans (hb.mono hw.size)
  have fs0 := h1b
  have hwz : w.heap.size ≤ W1.heap.size := hw0z
  clear hb h1b h2b hw0z
  simp only [Act.put]
  clear hl
  obtain ⟨xt, yt, zt, vt⟩ := Bt.facts
  obtain ⟨xM, yM, zM, vM⟩ := BM.facts
  obtain ⟨xs0, ys0, zs0, vs0⟩ := Bs0.facts
  go_wp2_with fail
  clear xt yt zt vt xM yM zM vM xs0 ys0 zs0 vs0
  try rw [rounds_succ]
  obtain ⟨xt, yt, zt, vt⟩ := Bt.facts
  obtain ⟨xM, yM, zM, vM⟩ := BM.facts
  obtain ⟨xs0, ys0, zs0, vs0⟩ := Bs0.facts
  go_wp2_with fail
  refine at_world fun W3 hW => ?_
  replace hw : Below w.heap.size w W3 := by rw [hW]; exact hw
  replace Bt : Box W3 (w.heap.size) [.int .i64 T.A.x, .int .i64 T.A.y, .int .i64 T.B.x, .int .i64 T.B.y, .int .i64 T.C.x, .int .i64 T.C.y] 25 := by rw [hW]; exact Bt
  replace BM : Box W3 (mb) [.map (some b)] 65 := by rw [hW]; exact BM
  replace Bs0 : Box W3 (bks0) [.int .i64 0, .int .i64 0, .int .i64 0, .int .i64 0, .int .i64 0, .int .i64 0] 25 := by rw [hW]; exact Bs0
  clear hW
  clear xt yt zt vt xM yM zM vM xs0 ys0 zs0 vs0
  have hl : ∀ d os, (Instr.lookup 63 (.map (some b)) (.agg #[.int .i64 T.B.x, .int .i64 T.B.y, .int .i64 T.C.x, .int .i64 T.C.y]) true).run Try.prog (grow (redrawn W3 d) os) = .ok (.tuple #[.agg #[.int .i64 S.A.x, .int .i64 S.A.y, .int .i64 S.B.x, .int .i64 S.B.y, .int .i64 S.C.x, .int .i64 S.C.y], .bool true]) (grow (redrawn W3 d) os) := fun d os => ((Hm.ext hw rfl).ext (below_regrown W3 d os) rfl).look_some kvM zero_tri (okT_w hk).2.1 hg1
  clear hg1
  have gt := Bt.cells
  have gM := BM.cells
  have gs0 := Bs0.cells
  refine wp_region_lateG2 11 6 20 [.int .i64 S.A.x, .int .i64 S.A.y, .int .i64 S.B.x, .int .i64 S.B.y, .int .i64 S.C.x, .int .i64 S.C.y] (zs := [.int .i64 0, .int .i64 0, .int .i64 0, .int .i64 0, .int .i64 0, .int .i64 0]) (eff := eff6 (.int .i64 S.A.x) (.int .i64 S.A.y) (.int .i64 S.B.x) (.int .i64 S.B.y) (.int .i64 S.C.x) (.int .i64 S.C.y)) eff6_spec rfl rfl rfl rfl rfl rfl rfl (by simp) (fun ρ W => by simp [execOp, go_sem]; rfl) (by kernel_rfl) (by as_aux_lemma => kernel_rfl) (C := fun w' => ∃ p : Regrown, w' = grow (redrawn W3 p.d) p.os) (fun w' h => regrown_of_below h) ?_ (fun ρ W b e1 e2 hB => by obtain ⟨x, y, _, _⟩ := hB.facts; simp [execOp, go_sem, e1, e2, x, y, eff6])
  simp only [List.take_succ_cons, List.take_zero, List.drop_succ_cons, List.drop_zero]
  repeat (first | (refine rWalk_skip (Eq.refl false) ?_; simp only [Act.put, List.setIfInBounds_toArray, List.set_cons_succ, List.set_cons_zero]) | (refine rWalk_step (fun K hK => ?_); go_simp; first | (refine hK _ ?_; clear hK K) | (apply Exists.intro; refine ⟨fun _ => ?_, hK _ ?_⟩; (first | with_reducible exact toExt (way_1 T) _); clear hK K)))
  refine rWalk_nil ⟨rfl, ?_⟩
  intro w4 bks1 hb h1b h2b Bs1
  have lts1 := Bt.lt
  have lMs1 := BM.lt
  have ls0s1 := Bs0.lt
  have hw0z := hw.size
  clear gt gM gs0
  replace Bt := Bt.ext hb rfl
  replace BM := BM.ext hb rfl
  replace Bs0 := Bs0.ext hb rfl
  replace hw := hw.trans (hb.mono hw.size)
  have fs1 := h1b
  have hwz : w.heap.size ≤ W3.heap.size := hw0z
  clear hb h1b h2b hw0z
  simp only [Act.put]
  clear hl
  obtain ⟨xt, yt, zt, vt⟩ := Bt.facts
  obtain ⟨xM, yM, zM, vM⟩ := BM.facts
  obtain ⟨xs0, ys0, zs0, vs0⟩ := Bs0.facts
  obtain ⟨xs1, ys1, zs1, vs1⟩ := Bs1.facts
  go_wp2
  go_ret
  exact ⟨rfl, hw⟩

set_option maxRecDepth 100000 in
set_option maxHeartbeats 1000000 in
theorem fits_2 (mb b : Nat) (E : List ((Pt × Pt) × Tri3)) (T : Tri3) (S : Tri3) (hg0 : getE E (T.A, T.B) = none) (hg1 : getE E (T.B, T.C) = none) (hg2 : getE E (T.C, T.A) = some S) (hk : okT T) (w : World) (Bm : Box w mb [.map (some b)] 65) (Hm : HoldsMap eW eT okW w b E) :
    Calls Try.prog 61 #[.pointer (some ⟨mb, 0, none⟩), .agg #[.int .i64 T.A.x, .int .i64 T.A.y, .int .i64 T.B.x, .int .i64 T.B.y, .int .i64 T.C.x, .int .i64 T.C.y]] w fun e w' => e = .returned (.bool false) ∧ Below w.heap.size w w' := by
  go_enter Try.func61, Try.ntmps61
  go_wp2_with fail
  refine at_world fun W1 hW => ?_
  have Bt : Box W1 (w.heap.size) [.int .i64 T.A.x, .int .i64 T.A.y, .int .i64 T.B.x, .int .i64 T.B.y, .int .i64 T.C.x, .int .i64 T.C.y] 25 := by rw [hW]; exact Box.new rfl
  have hw : Below w.heap.size w W1 := by rw [hW]; go_grown
  clear hW
  have BM : Box W1 (mb) [.map (some b)] 65 := Bm.ext hw rfl
  refine wp_loop_rounds 5 ?_
  try rw [rounds_succ]
  obtain ⟨xt, yt, zt, vt⟩ := Bt.facts
  obtain ⟨xM, yM, zM, vM⟩ := BM.facts
  go_wp2_with fail
  have hl : ∀ d os, (Instr.lookup 63 (.map (some b)) (.agg #[.int .i64 T.A.x, .int .i64 T.A.y, .int .i64 T.B.x, .int .i64 T.B.y]) true).run Try.prog (grow (redrawn W1 d) os) = .ok (.tuple #[.agg #[.int .i64 0, .int .i64 0, .int .i64 0, .int .i64 0, .int .i64 0, .int .i64 0], .bool false]) (grow (redrawn W1 d) os) := fun d os => ((Hm.ext hw rfl).ext (below_regrown W1 d os) rfl).look_none kvM zero_tri (okT_w hk).1 hg0
  clear hg0
  have gt := Bt.cells
  have gM := BM.cells
  refine wp_region_lateG2 11 6 20 [.int .i64 0, .int .i64 0, .int .i64 0, .int .i64 0, .int .i64 0, .int .i64 0] (zs := [.int .i64 0, .int .i64 0, .int .i64 0, .int .i64 0, .int .i64 0, .int .i64 0]) (eff := eff6 (.int .i64 0) (.int .i64 0) (.int .i64 0) (.int .i64 0) (.int .i64 0) (.int .i64 0)) eff6_spec rfl rfl rfl rfl rfl rfl rfl (by simp) (fun ρ W => by simp [execOp, go_sem]; rfl) (by kernel_rfl) (by as_aux_lemma => kernel_rfl) (C := fun w' => ∃ p : Regrown, w' = grow (redrawn W1 p.d) p.os) (fun w' h => regrown_of_below h) ?_ (fun ρ W b e1 e2 hB => by obtain ⟨x, y, _, _⟩ := hB.facts; simp [execOp, go_sem, e1, e2, x, y, eff6])
  simp only [List.take_succ_cons, List.take_zero, List.drop_succ_cons, List.drop_zero]
  repeat (first | (refine rWalk_skip (Eq.refl false) ?_; simp only [Act.put, List.setIfInBounds_toArray, List.set_cons_succ, List.set_cons_zero]) | (refine rWalk_step (fun K hK => ?_); go_simp; first | (refine hK _ ?_; clear hK K) | (apply Exists.intro; refine ⟨fun _ => ?_, hK _ ?_⟩; (first | with_reducible exact toExt (way_0 T) _); clear hK K)))
  refine rWalk_nil ⟨rfl, ?_⟩
  intro w2 bks0 hb h1b h2b Bs0
  have lts0 := Bt.lt
  have lMs0 := BM.lt
  have hw0z := hw.size
  clear gt gM
  clear xt yt zt vt xM yM zM vM
  replace Bt := Bt.ext hb rfl
  replace BM := BM.ext hb rfl
  replace hw := hw.trans (hb.mono hw.size)
  have fs0 := h1b
  have hwz : w.heap.size ≤ W1.heap.size := hw0z
  clear hb h1b h2b hw0z
  simp only [Act.put]
  clear hl
  obtain ⟨xt, yt, zt, vt⟩ := Bt.facts
  obtain ⟨xM, yM, zM, vM⟩ := BM.facts
  obtain ⟨xs0, ys0, zs0, vs0⟩ := Bs0.facts
  go_wp2_with fail
  clear xt yt zt vt xM yM zM vM xs0 ys0 zs0 vs0
  try rw [rounds_succ]
  obtain ⟨xt, yt, zt, vt⟩ := Bt.facts
  obtain ⟨xM, yM, zM, vM⟩ := BM.facts
  obtain ⟨xs0, ys0, zs0, vs0⟩ := Bs0.facts
  go_wp2_with fail
  refine at_world fun W3 hW => ?_
  replace hw : Below w.heap.size w W3 := by rw [hW]; exact hw
  replace Bt : Box W3 (w.heap.size) [.int .i64 T.A.x, .int .i64 T.A.y, .int .i64 T.B.x, .int .i64 T.B.y, .int .i64 T.C.x, .int .i64 T.C.y] 25 := by rw [hW]; exact Bt
  replace BM : Box W3 (mb) [.map (some b)] 65 := by rw [hW]; exact BM
  replace Bs0 : Box W3 (bks0) [.int .i64 0, .int .i64 0, .int .i64 0, .int .i64 0, .int .i64 0, .int .i64 0] 25 := by rw [hW]; exact Bs0
  clear hW
  clear xt yt zt vt xM yM zM vM xs0 ys0 zs0 vs0
  have hl : ∀ d os, (Instr.lookup 63 (.map (some b)) (.agg #[.int .i64 T.B.x, .int .i64 T.B.y, .int .i64 T.C.x, .int .i64 T.C.y]) true).run Try.prog (grow (redrawn W3 d) os) = .ok (.tuple #[.agg #[.int .i64 0, .int .i64 0, .int .i64 0, .int .i64 0, .int .i64 0, .int .i64 0], .bool false]) (grow (redrawn W3 d) os) := fun d os => ((Hm.ext hw rfl).ext (below_regrown W3 d os) rfl).look_none kvM zero_tri (okT_w hk).2.1 hg1
  clear hg1
  have gt := Bt.cells
  have gM := BM.cells
  have gs0 := Bs0.cells
  refine wp_region_lateG2 11 6 20 [.int .i64 0, .int .i64 0, .int .i64 0, .int .i64 0, .int .i64 0, .int .i64 0] (zs := [.int .i64 0, .int .i64 0, .int .i64 0, .int .i64 0, .int .i64 0, .int .i64 0]) (eff := eff6 (.int .i64 0) (.int .i64 0) (.int .i64 0) (.int .i64 0) (.int .i64 0) (.int .i64 0)) eff6_spec rfl rfl rfl rfl rfl rfl rfl (by simp) (fun ρ W => by simp [execOp, go_sem]; rfl) (by kernel_rfl) (by as_aux_lemma => kernel_rfl) (C := fun w' => ∃ p : Regrown, w' = grow (redrawn W3 p.d) p.os) (fun w' h => regrown_of_below h) ?_ (fun ρ W b e1 e2 hB => by obtain ⟨x, y, _, _⟩ := hB.facts; simp [execOp, go_sem, e1, e2, x, y, eff6])
  simp only [List.take_succ_cons, List.take_zero, List.drop_succ_cons, List.drop_zero]
  repeat (first | (refine rWalk_skip (Eq.refl false) ?_; simp only [Act.put, List.setIfInBounds_toArray, List.set_cons_succ, List.set_cons_zero]) | (refine rWalk_step (fun K hK => ?_); go_simp; first | (refine hK _ ?_; clear hK K) | (apply Exists.intro; refine ⟨fun _ => ?_, hK _ ?_⟩; (first | with_reducible exact toExt (way_1 T) _); clear hK K)))
  refine rWalk_nil ⟨rfl, ?_⟩
  intro w4 bks1 hb h1b h2b Bs1
  have lts1 := Bt.lt
  have lMs1 := BM.lt
  have ls0s1 := Bs0.lt
  have hw0z := hw.size
  clear gt gM gs0
  replace Bt := Bt.ext hb rfl
  replace BM := BM.ext hb rfl
  replace Bs0 := Bs0.ext hb rfl
  replace hw := hw.trans (hb.mono hw.size)
  have fs1 := h1b
  have hwz : w.heap.size ≤ W3.heap.size := hw0z
  clear hb h1b h2b hw0z
  simp only [Act.put]
  clear hl
  obtain ⟨xt, yt, zt, vt⟩ := Bt.facts
  obtain ⟨xM, yM, zM, vM⟩ := BM.facts
  obtain ⟨xs0, ys0, zs0, vs0⟩ := Bs0.facts
  obtain ⟨xs1, ys1, zs1, vs1⟩ := Bs1.facts
  go_wp2_with fail
  clear xt yt zt vt xM yM zM vM xs0 ys0 zs0 vs0 xs1 ys1 zs1 vs1
  try rw [rounds_succ]
  obtain ⟨xt, yt, zt, vt⟩ := Bt.facts
  obtain ⟨xM, yM, zM, vM⟩ := BM.facts
  obtain ⟨xs0, ys0, zs0, vs0⟩ := Bs0.facts
  obtain ⟨xs1, ys1, zs1, vs1⟩ := Bs1.facts
  go_wp2_with fail
  refine at_world fun W5 hW => ?_
  replace hw : Below w.heap.size w W5 := by rw [hW]; exact hw
  replace Bt : Box W5 (w.heap.size) [.int .i64 T.A.x, .int .i64 T.A.y, .int .i64 T.B.x, .int .i64 T.B.y, .int .i64 T.C.x, .int .i64 T.C.y] 25 := by rw [hW]; exact Bt
  replace BM : Box W5 (mb) [.map (some b)] 65 := by rw [hW]; exact BM
  replace Bs0 : Box W5 (bks0) [.int .i64 0, .int .i64 0, .int .i64 0, .int .i64 0, .int .i64 0, .int .i64 0] 25 := by rw [hW]; exact Bs0
  replace Bs1 : Box W5 (bks1) [.int .i64 0, .int .i64 0, .int .i64 0, .int .i64 0, .int .i64 0, .int .i64 0] 25 := by rw [hW]; exact Bs1
  clear hW
  clear xt yt zt vt xM yM zM vM xs0 ys0 zs0 vs0 xs1 ys1 zs1 vs1
  have hl : ∀ d os, (Instr.lookup 63 (.map (some b)) (.agg #[.int .i64 T.C.x, .int .i64 T.C.y, .int .i64 T.A.x, .int .i64 T.A.y]) true).run Try.prog (grow (redrawn W5 d) os) = .ok (.tuple #[.agg #[.int .i64 S.A.x, .int .i64 S.A.y, .int .i64 S.B.x, .int .i64 S.B.y, .int .i64 S.C.x, .int .i64 S.C.y], .bool true]) (grow (redrawn W5 d) os) := fun d os => ((Hm.ext hw rfl).ext (below_regrown W5 d os) rfl).look_some kvM zero_tri (okT_w hk).2.2 hg2
  clear hg2
  have gt := Bt.cells
  have gM := BM.cells
  have gs0 := Bs0.cells
  have gs1 := Bs1.cells
  refine wp_region_lateG2 11 6 20 [.int .i64 S.A.x, .int .i64 S.A.y, .int .i64 S.B.x, .int .i64 S.B.y, .int .i64 S.C.x, .int .i64 S.C.y] (zs := [.int .i64 0, .int .i64 0, .int .i64 0, .int .i64 0, .int .i64 0, .int .i64 0]) (eff := eff6 (.int .i64 S.A.x) (.int .i64 S.A.y) (.int .i64 S.B.x) (.int .i64 S.B.y) (.int .i64 S.C.x) (.int .i64 S.C.y)) eff6_spec rfl rfl rfl rfl rfl rfl rfl (by simp) (fun ρ W => by simp [execOp, go_sem]; rfl) (by kernel_rfl) (by as_aux_lemma => kernel_rfl) (C := fun w' => ∃ p : Regrown, w' = grow (redrawn W5 p.d) p.os) (fun w' h => regrown_of_below h) ?_ (fun ρ W b e1 e2 hB => by obtain ⟨x, y, _, _⟩ := hB.facts; simp [execOp, go_sem, e1, e2, x, y, eff6])
  simp only [List.take_succ_cons, List.take_zero, List.drop_succ_cons, List.drop_zero]
  repeat (first | (refine rWalk_skip (Eq.refl false) ?_; simp only [Act.put, List.setIfInBounds_toArray, List.set_cons_succ, List.set_cons_zero]) | (refine rWalk_step (fun K hK => ?_); go_simp; first | (refine hK _ ?_; clear hK K) | (apply Exists.intro; refine ⟨fun _ => ?_, hK _ ?_⟩; (first | with_reducible exact toExt (way_2 T) _); clear hK K)))
  refine rWalk_nil ⟨rfl, ?_⟩
  intro w6 bks2 hb h1b h2b Bs2
  have lts2 := Bt.lt
  have lMs2 := BM.lt
  have ls0s2 := Bs0.lt
  have ls1s2 := Bs1.lt
  have hw0z := hw.size
  clear gt gM gs0 gs1
  replace Bt := Bt.ext hb rfl
  replace BM := BM.ext hb rfl
  replace Bs0 := Bs0.ext hb rfl
  replace Bs1 := Bs1.ext hb rfl
  replace hw := hw.trans (hb.mono hw.size)
  have fs2 := h1b
  have hwz : w.heap.size ≤ W5.heap.size := hw0z
  clear hb h1b h2b hw0z
  simp only [Act.put]
  clear hl
  obtain ⟨xt, yt, zt, vt⟩ := Bt.facts
  obtain ⟨xM, yM, zM, vM⟩ := BM.facts
  obtain ⟨xs0, ys0, zs0, vs0⟩ := Bs0.facts
  obtain ⟨xs1, ys1, zs1, vs1⟩ := Bs1.facts
  obtain ⟨xs2, ys2, zs2, vs2⟩ := Bs2.facts
  go_wp2
  go_ret
  exact ⟨rfl, hw⟩

set_option maxRecDepth 100000 in
set_option maxHeartbeats 1000000 in
theorem fits_3 (mb b : Nat) (E : List ((Pt × Pt) × Tri3)) (T : Tri3) (hg0 : getE E (T.A, T.B) = none) (hg1 : getE E (T.B, T.C) = none) (hg2 : getE E (T.C, T.A) = none) (hk : okT T) (w : World) (Bm : Box w mb [.map (some b)] 65) (Hm : HoldsMap eW eT okW w b E) :
    Calls Try.prog 61 #[.pointer (some ⟨mb, 0, none⟩), .agg #[.int .i64 T.A.x, .int .i64 T.A.y, .int .i64 T.B.x, .int .i64 T.B.y, .int .i64 T.C.x, .int .i64 T.C.y]] w fun e w' => e = .returned (.bool (valT T)) ∧ Below w.heap.size w w' := by
  have cv := tvalid_any T
  generalize valT T = v at *
  go_enter Try.func61, Try.ntmps61
  go_wp2_with fail
  refine at_world fun W1 hW => ?_
  have Bt : Box W1 (w.heap.size) [.int .i64 T.A.x, .int .i64 T.A.y, .int .i64 T.B.x, .int .i64 T.B.y, .int .i64 T.C.x, .int .i64 T.C.y] 25 := by rw [hW]; exact Box.new rfl
  have hw : Below w.heap.size w W1 := by rw [hW]; go_grown
  clear hW
  have BM : Box W1 (mb) [.map (some b)] 65 := Bm.ext hw rfl
  refine wp_loop_rounds 5 ?_
  try rw [rounds_succ]
  obtain ⟨xt, yt, zt, vt⟩ := Bt.facts
  obtain ⟨xM, yM, zM, vM⟩ := BM.facts
  go_wp2_with fail
  have hl : ∀ d os, (Instr.lookup 63 (.map (some b)) (.agg #[.int .i64 T.A.x, .int .i64 T.A.y, .int .i64 T.B.x, .int .i64 T.B.y]) true).run Try.prog (grow (redrawn W1 d) os) = .ok (.tuple #[.agg #[.int .i64 0, .int .i64 0, .int .i64 0, .int .i64 0, .int .i64 0, .int .i64 0], .bool false]) (grow (redrawn W1 d) os) := fun d os => ((Hm.ext hw rfl).ext (below_regrown W1 d os) rfl).look_none kvM zero_tri (okT_w hk).1 hg0
  clear hg0
  have gt := Bt.cells
  have gM := BM.cells
  refine wp_region_lateG2 11 6 20 [.int .i64 0, .int .i64 0, .int .i64 0, .int .i64 0, .int .i64 0, .int .i64 0] (zs := [.int .i64 0, .int .i64 0, .int .i64 0, .int .i64 0, .int .i64 0, .int .i64 0]) (eff := eff6 (.int .i64 0) (.int .i64 0) (.int .i64 0) (.int .i64 0) (.int .i64 0) (.int .i64 0)) eff6_spec rfl rfl rfl rfl rfl rfl rfl (by simp) (fun ρ W => by simp [execOp, go_sem]; rfl) (by kernel_rfl) (by as_aux_lemma => kernel_rfl) (C := fun w' => ∃ p : Regrown, w' = grow (redrawn W1 p.d) p.os) (fun w' h => regrown_of_below h) ?_ (fun ρ W b e1 e2 hB => by obtain ⟨x, y, _, _⟩ := hB.facts; simp [execOp, go_sem, e1, e2, x, y, eff6])
  simp only [List.take_succ_cons, List.take_zero, List.drop_succ_cons, List.drop_zero]
  repeat (first | (refine rWalk_skip (Eq.refl false) ?_; simp only [Act.put, List.setIfInBounds_toArray, List.set_cons_succ, List.set_cons_zero]) | (refine rWalk_step (fun K hK => ?_); go_simp; first | (refine hK _ ?_; clear hK K) | (apply Exists.intro; refine ⟨fun _ => ?_, hK _ ?_⟩; (first | with_reducible exact toExt (way_0 T) _); clear hK K)))
  refine rWalk_nil ⟨rfl, ?_⟩
  intro w2 bks0 hb h1b h2b Bs0
  have lts0 := Bt.lt
  have lMs0 := BM.lt
  have hw0z := hw.size
  clear gt gM
  clear xt yt zt vt xM yM zM vM
  replace Bt := Bt.ext hb rfl
  replace BM := BM.ext hb rfl
  replace hw := hw.trans (hb.mono hw.size)
  have fs0 := h1b
  have hwz : w.heap.size ≤ W1.heap.size := hw0z
  clear hb h1b h2b hw0z
  simp only [Act.put]
  clear hl
  obtain ⟨xt, yt, zt, vt⟩ := Bt.facts
  obtain ⟨xM, yM, zM, vM⟩ := BM.facts
  obtain ⟨xs0, ys0, zs0, vs0⟩ := Bs0.facts
  go_wp2_with fail
  clear xt yt zt vt xM yM zM vM xs0 ys0 zs0 vs0
  try rw [rounds_succ]
  obtain ⟨xt, yt, zt, vt⟩ := Bt.facts
  obtain ⟨xM, yM, zM, vM⟩ := BM.facts
  obtain ⟨xs0, ys0, zs0, vs0⟩ := Bs0.facts
  go_wp2_with fail
  refine at_world fun W3 hW => ?_
  replace hw : Below w.heap.size w W3 := by rw [hW]; exact hw
  replace Bt : Box W3 (w.heap.size) [.int .i64 T.A.x, .int .i64 T.A.y, .int .i64 T.B.x, .int .i64 T.B.y, .int .i64 T.C.x, .int .i64 T.C.y] 25 := by rw [hW]; exact Bt
  replace BM : Box W3 (mb) [.map (some b)] 65 := by rw [hW]; exact BM
  replace Bs0 : Box W3 (bks0) [.int .i64 0, .int .i64 0, .int .i64 0, .int .i64 0, .int .i64 0, .int .i64 0] 25 := by rw [hW]; exact Bs0
  clear hW
  clear xt yt zt vt xM yM zM vM xs0 ys0 zs0 vs0
  have hl : ∀ d os, (Instr.lookup 63 (.map (some b)) (.agg #[.int .i64 T.B.x, .int .i64 T.B.y, .int .i64 T.C.x, .int .i64 T.C.y]) true).run Try.prog (grow (redrawn W3 d) os) = .ok (.tuple #[.agg #[.int .i64 0, .int .i64 0, .int .i64 0, .int .i64 0, .int .i64 0, .int .i64 0], .bool false]) (grow (redrawn W3 d) os) := fun d os => ((Hm.ext hw rfl).ext (below_regrown W3 d os) rfl).look_none kvM zero_tri (okT_w hk).2.1 hg1
  clear hg1
  have gt := Bt.cells
  have gM := BM.cells
  have gs0 := Bs0.cells
  refine wp_region_lateG2 11 6 20 [.int .i64 0, .int .i64 0, .int .i64 0, .int .i64 0, .int .i64 0, .int .i64 0] (zs := [.int .i64 0, .int .i64 0, .int .i64 0, .int .i64 0, .int .i64 0, .int .i64 0]) (eff := eff6 (.int .i64 0) (.int .i64 0) (.int .i64 0) (.int .i64 0) (.int .i64 0) (.int .i64 0)) eff6_spec rfl rfl rfl rfl rfl rfl rfl (by simp) (fun ρ W => by simp [execOp, go_sem]; rfl) (by kernel_rfl) (by as_aux_lemma => kernel_rfl) (C := fun w' => ∃ p : Regrown, w' = grow (redrawn W3 p.d) p.os) (fun w' h => regrown_of_below h) ?_ (fun ρ W b e1 e2 hB => by obtain ⟨x, y, _, _⟩ := hB.facts; simp [execOp, go_sem, e1, e2, x, y, eff6])
  simp only [List.take_succ_cons, List.take_zero, List.drop_succ_cons, List.drop_zero]
  repeat (first | (refine rWalk_skip (Eq.refl false) ?_; simp only [Act.put, List.setIfInBounds_toArray, List.set_cons_succ, List.set_cons_zero]) | (refine rWalk_step (fun K hK => ?_); go_simp; first | (refine hK _ ?_; clear hK K) | (apply Exists.intro; refine ⟨fun _ => ?_, hK _ ?_⟩; (first | with_reducible exact toExt (way_1 T) _); clear hK K)))
  refine rWalk_nil ⟨rfl, ?_⟩
  intro w4 bks1 hb h1b h2b Bs1
  have lts1 := Bt.lt
  have lMs1 := BM.lt
  have ls0s1 := Bs0.lt
  have hw0z := hw.size
  clear gt gM gs0
  replace Bt := Bt.ext hb rfl
  replace BM := BM.ext hb rfl
  replace Bs0 := Bs0.ext hb rfl
  replace hw := hw.trans (hb.mono hw.size)
  have fs1 := h1b
  have hwz : w.heap.size ≤ W3.heap.size := hw0z
  clear hb h1b h2b hw0z
  simp only [Act.put]
  clear hl
  obtain ⟨xt, yt, zt, vt⟩ := Bt.facts
  obtain ⟨xM, yM, zM, vM⟩ := BM.facts
  obtain ⟨xs0, ys0, zs0, vs0⟩ := Bs0.facts
  obtain ⟨xs1, ys1, zs1, vs1⟩ := Bs1.facts
  go_wp2_with fail
  clear xt yt zt vt xM yM zM vM xs0 ys0 zs0 vs0 xs1 ys1 zs1 vs1
  try rw [rounds_succ]
  obtain ⟨xt, yt, zt, vt⟩ := Bt.facts
  obtain ⟨xM, yM, zM, vM⟩ := BM.facts
  obtain ⟨xs0, ys0, zs0, vs0⟩ := Bs0.facts
  obtain ⟨xs1, ys1, zs1, vs1⟩ := Bs1.facts
  go_wp2_with fail
  refine at_world fun W5 hW => ?_
  replace hw : Below w.heap.size w W5 := by rw [hW]; exact hw
  replace Bt : Box W5 (w.heap.size) [.int .i64 T.A.x, .int .i64 T.A.y, .int .i64 T.B.x, .int .i64 T.B.y, .int .i64 T.C.x, .int .i64 T.C.y] 25 := by rw [hW]; exact Bt
  replace BM : Box W5 (mb) [.map (some b)] 65 := by rw [hW]; exact BM
  replace Bs0 : Box W5 (bks0) [.int .i64 0, .int .i64 0, .int .i64 0, .int .i64 0, .int .i64 0, .int .i64 0] 25 := by rw [hW]; exact Bs0
  replace Bs1 : Box W5 (bks1) [.int .i64 0, .int .i64 0, .int .i64 0, .int .i64 0, .int .i64 0, .int .i64 0] 25 := by rw [hW]; exact Bs1
  clear hW
  clear xt yt zt vt xM yM zM vM xs0 ys0 zs0 vs0 xs1 ys1 zs1 vs1
  have hl : ∀ d os, (Instr.lookup 63 (.map (some b)) (.agg #[.int .i64 T.C.x, .int .i64 T.C.y, .int .i64 T.A.x, .int .i64 T.A.y]) true).run Try.prog (grow (redrawn W5 d) os) = .ok (.tuple #[.agg #[.int .i64 0, .int .i64 0, .int .i64 0, .int .i64 0, .int .i64 0, .int .i64 0], .bool false]) (grow (redrawn W5 d) os) := fun d os => ((Hm.ext hw rfl).ext (below_regrown W5 d os) rfl).look_none kvM zero_tri (okT_w hk).2.2 hg2
  clear hg2
  have gt := Bt.cells
  have gM := BM.cells
  have gs0 := Bs0.cells
  have gs1 := Bs1.cells
  refine wp_region_lateG2 11 6 20 [.int .i64 0, .int .i64 0, .int .i64 0, .int .i64 0, .int .i64 0, .int .i64 0] (zs := [.int .i64 0, .int .i64 0, .int .i64 0, .int .i64 0, .int .i64 0, .int .i64 0]) (eff := eff6 (.int .i64 0) (.int .i64 0) (.int .i64 0) (.int .i64 0) (.int .i64 0) (.int .i64 0)) eff6_spec rfl rfl rfl rfl rfl rfl rfl (by simp) (fun ρ W => by simp [execOp, go_sem]; rfl) (by kernel_rfl) (by as_aux_lemma => kernel_rfl) (C := fun w' => ∃ p : Regrown, w' = grow (redrawn W5 p.d) p.os) (fun w' h => regrown_of_below h) ?_ (fun ρ W b e1 e2 hB => by obtain ⟨x, y, _, _⟩ := hB.facts; simp [execOp, go_sem, e1, e2, x, y, eff6])
  simp only [List.take_succ_cons, List.take_zero, List.drop_succ_cons, List.drop_zero]
  repeat (first | (refine rWalk_skip (Eq.refl false) ?_; simp only [Act.put, List.setIfInBounds_toArray, List.set_cons_succ, List.set_cons_zero]) | (refine rWalk_step (fun K hK => ?_); go_simp; first | (refine hK _ ?_; clear hK K) | (apply Exists.intro; refine ⟨fun _ => ?_, hK _ ?_⟩; (first | with_reducible exact toExt (way_2 T) _); clear hK K)))
  refine rWalk_nil ⟨rfl, ?_⟩
  intro w6 bks2 hb h1b h2b Bs2
  have lts2 := Bt.lt
  have lMs2 := BM.lt
  have ls0s2 := Bs0.lt
  have ls1s2 := Bs1.lt
  have hw0z := hw.size
  clear gt gM gs0 gs1
  replace Bt := Bt.ext hb rfl
  replace BM := BM.ext hb rfl
  replace Bs0 := Bs0.ext hb rfl
  replace Bs1 := Bs1.ext hb rfl
  replace hw := hw.trans (hb.mono hw.size)
  have fs2 := h1b
  have hwz : w.heap.size ≤ W5.heap.size := hw0z
  clear hb h1b h2b hw0z
  simp only [Act.put]
  clear hl
  obtain ⟨xt, yt, zt, vt⟩ := Bt.facts
  obtain ⟨xM, yM, zM, vM⟩ := BM.facts
  obtain ⟨xs0, ys0, zs0, vs0⟩ := Bs0.facts
  obtain ⟨xs1, ys1, zs1, vs1⟩ := Bs1.facts
  obtain ⟨xs2, ys2, zs2, vs2⟩ := Bs2.facts
  go_wp2_with fail
  clear xt yt zt vt xM yM zM vM xs0 ys0 zs0 vs0 xs1 ys1 zs1 vs1 xs2 ys2 zs2 vs2
  try rw [rounds_succ]
  obtain ⟨xt, yt, zt, vt⟩ := Bt.facts
  obtain ⟨xM, yM, zM, vM⟩ := BM.facts
  obtain ⟨xs0, ys0, zs0, vs0⟩ := Bs0.facts
  obtain ⟨xs1, ys1, zs1, vs1⟩ := Bs1.facts
  obtain ⟨xs2, ys2, zs2, vs2⟩ := Bs2.facts
  go_wp2_with fail
  refine (cv _).mono ?_
  rintro e w9 ⟨rfl, hb⟩
  replace hw := hw.trans (hb.mono hw.size)
  clear xt yt zt vt xM yM zM vM xs0 ys0 zs0 vs0 xs1 ys1 zs1 vs1 xs2 ys2 zs2 vs2
  clear hb
  go_wp2
  go_ret
  exact ⟨rfl, hw⟩

theorem fits_any (mb b : Nat) (E : List ((Pt × Pt) × Tri3)) (T : Tri3) (hk : okT T) (w : World) (Bm : Box w mb [.map (some b)] 65) (Hm : HoldsMap eW eT okW w b E) :
    Calls Try.prog 61 #[.pointer (some ⟨mb, 0, none⟩), .agg #[.int .i64 T.A.x, .int .i64 T.A.y, .int .i64 T.B.x, .int .i64 T.B.y, .int .i64 T.C.x, .int .i64 T.C.y]] w fun e w' => e = .returned (.bool (Option.isNone (getE E (T.A, T.B)) && (Option.isNone (getE E (T.B, T.C)) && (Option.isNone (getE E (T.C, T.A)) && valT T)))) ∧ Below w.heap.size w w' := by
  cases h0 : getE E (T.A, T.B) with
  | some S => exact fits_0 mb b E T S h0 hk w Bm Hm
  | none =>
    cases h1 : getE E (T.B, T.C) with
    | some S => exact fits_1 mb b E T S h0 h1 hk w Bm Hm
    | none =>
      cases h2 : getE E (T.C, T.A) with
      | some S => exact fits_2 mb b E T S h0 h1 h2 hk w Bm Hm
      | none => exact fits_3 mb b E T h0 h1 h2 hk w Bm Hm
theorem fitsE_any (mb b : Nat) (E : List ((Pt × Pt) × Tri3)) (T : Tri3) (hk : okT T) (w : World) (Bm : Box w mb [.map (some b)] 65) (Hm : HoldsMap eW eT okW w b E) :
    Calls Try.prog 61 #[.pointer (some ⟨mb, 0, none⟩), .agg #[.int .i64 T.A.x, .int .i64 T.A.y, .int .i64 T.B.x, .int .i64 T.B.y, .int .i64 T.C.x, .int .i64 T.C.y]] w fun e w' => e = .returned (.bool (fitsE E T)) ∧ Below w.heap.size w w' := fits_any mb b E T hk w Bm Hm
end Go.Proofs.Ytaegobkkcgheeaa
