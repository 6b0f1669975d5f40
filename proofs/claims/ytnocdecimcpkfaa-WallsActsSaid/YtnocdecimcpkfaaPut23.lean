/- Put together: WalV, WalW, WalT. -/
import Derived.Test.YtnocdecimcpkfaaRows
import Derived.Test.YtnocdecimcpkfaaPut22
import Derived.Test.YtnocdecimcpkfaaPut1
import Derived.WalkKit
import Derived.WalkSpells
import Derived.WalkLawsBesides
import Derived.Laws.Externs
import Derived.Deep.QuietTactic
import Derived.BigQuiet
import Derived.Lib.Hide
import Derived.Handy
import Derived.LoopN
import Derived.RegionTactic
import Derived.OwnWalk
namespace Go.Proofs.Ytnocdecimcpkfaa

/-- A height over the plane. -/
def ff (al be : Int) (p : Pt) : Int := al * p.x + be * p.y
theorem cross_eq (al be : Int) (a b c d : Pt) : det a b d * ff al be c - det a b c * ff al be d = det c d a * ff al be b - det c d b * ff al be a := by
  unfold det ff; grind
theorem cross_d (a b c d : Pt) : det a b d - det a b c = det c d a - det c d b := by unfold det; grind
theorem on_ff {p a b : Pt} (al be : Int) (hab : a ≠ b) (h : onS p a b = true) {m : Int} : (ff al be a < m → ff al be b < m → ff al be p < m) ∧ (m ≤ ff al be a → m ≤ ff al be b → m ≤ ff al be p) := by
  unfold onS at h
  simp only [Bool.and_eq_true, decide_eq_true_eq] at h
  obtain ⟨hp, ha, hb, h0, h1⟩ := h
  have hd : det a b p = 0 := by rw [ori_v ha hb hp] at h0; exact sgn_zero.1 h0
  obtain ⟨k0, k1⟩ := (on_k hab hd).1 h1
  obtain ⟨c1, c2⟩ := coll hd
  have hE := EE_pos hab
  have e : EE a b * (ff al be p - ff al be a) = kk a b p * (ff al be b - ff al be a) := by
    have : EE a b * (ff al be p - ff al be a) = al * (EE a b * (p.x - a.x)) + be * (EE a b * (p.y - a.y)) := by unfold ff; grind
    rw [this, c1, c2]; unfold ff; grind
  generalize ff al be p = fp at *
  generalize ff al be a = fa at *
  generalize ff al be b = fb at *
  generalize EE a b = E at *
  generalize kk a b p = k at *
  have e2 : E * (fp - m) = k * (fb - m) + (E - k) * (fa - m) := by grind
  constructor
  · intro ha' hb'
    have x1 : k * (fb - m) ≤ 0 := Int.mul_nonpos_of_nonneg_of_nonpos k0 (by omega)
    have x2 : (E - k) * (fa - m) ≤ 0 := Int.mul_nonpos_of_nonneg_of_nonpos (by omega) (by omega)
    have x3 : E * (fp - m) < 0 := by
      rcases Int.lt_or_eq_of_le k0 with hk | hk
      · have := Int.mul_neg_of_pos_of_neg hk (show fb - m < 0 by omega); omega
      · have : (E - k) * (fa - m) < 0 := Int.mul_neg_of_pos_of_neg (by omega) (by omega)
        omega
    rcases Int.lt_or_le (fp - m) 0 with h | h
    · omega
    · have := Int.mul_nonneg (Int.le_of_lt hE) h; omega
  · intro ha' hb'
    have x1 : 0 ≤ k * (fb - m) := Int.mul_nonneg k0 (by omega)
    have x2 : 0 ≤ (E - k) * (fa - m) := Int.mul_nonneg (by omega) (by omega)
    rcases Int.lt_or_le (fp - m) 0 with h | h
    · have := Int.mul_neg_of_pos_of_neg hE h; omega
    · omega
/-- Apart by a line: they do not meet. -/
theorem meet_apart {a b c d : Pt} (al be m : Int) (ha : ff al be a < m) (hb : ff al be b < m) (hc : m ≤ ff al be c) (hd : m ≤ ff al be d) : meetS a b c d = 0 := by
  have hbd := meet_bd a b c d
  by_cases hs : Seg2 a b c d
  case neg => exact meetS_none hs
  by_cases h2 : 2 ≤ meetS a b c d
  · have h := meet_two h2
    simp only [Bool.or_eq_true] at h
    rcases h with h | h | h | h
    · have := (on_ff al be hs.ncd h (m := m)).2 hc hd; omega
    · have := (on_ff al be hs.ncd h (m := m)).2 hc hd; omega
    · have := (on_ff al be hs.nab h (m := m)).1 ha hb; omega
    · have := (on_ff al be hs.nab h (m := m)).1 ha hb; omega
  · by_cases h1 : meetS a b c d = 1
    · obtain ⟨o1, o2⟩ := meet_one h1
      rw [ori_v hs.va hs.vb hs.vc, ori_v hs.va hs.vb hs.vd] at o1
      rw [ori_v hs.vc hs.vd hs.va, ori_v hs.vc hs.vd hs.vb] at o2
      have e := cross_eq al be a b c d
      have e' := cross_d a b c d
      generalize ff al be a = fa at *
      generalize ff al be b = fb at *
      generalize ff al be c = fc at *
      generalize ff al be d = fd at *
      generalize det a b c = s at *
      generalize det a b d = t at *
      generalize det c d a = u at *
      generalize det c d b = v at *
      have x : t * (fc - m) - s * (fd - m) = u * (fb - m) - v * (fa - m) := by grind
      rcases sgn_cases s with ⟨s1, s2⟩ | ⟨s1, s2⟩ | ⟨s1, s2⟩ <;> rcases sgn_cases t with ⟨t1, t2⟩ | ⟨t1, t2⟩ | ⟨t1, t2⟩ <;> rw [s1, t1] at o1 <;> try omega
      · rcases sgn_cases u with ⟨u1, u2⟩ | ⟨u1, u2⟩ | ⟨u1, u2⟩ <;> rcases sgn_cases v with ⟨v1, v2⟩ | ⟨v1, v2⟩ | ⟨v1, v2⟩ <;> rw [u1, v1] at o2 <;> try omega
        have y1 : 0 ≤ t * (fc - m) := Int.mul_nonneg (by omega) (by omega)
        have y2 : s * (fd - m) ≤ 0 := Int.mul_nonpos_of_nonpos_of_nonneg (by omega) (by omega)
        have y3 : u * (fb - m) < 0 := Int.mul_neg_of_pos_of_neg u2 (by omega)
        have y4 : 0 < v * (fa - m) := Int.mul_pos_of_neg_of_neg v2 (by omega)
        omega
      · rcases sgn_cases u with ⟨u1, u2⟩ | ⟨u1, u2⟩ | ⟨u1, u2⟩ <;> rcases sgn_cases v with ⟨v1, v2⟩ | ⟨v1, v2⟩ | ⟨v1, v2⟩ <;> rw [u1, v1] at o2 <;> try omega
        have y1 : t * (fc - m) ≤ 0 := Int.mul_nonpos_of_nonpos_of_nonneg (by omega) (by omega)
        have y2 : 0 ≤ s * (fd - m) := Int.mul_nonneg (by omega) (by omega)
        have y3 : 0 < u * (fb - m) := Int.mul_pos_of_neg_of_neg u2 (by omega)
        have y4 : v * (fa - m) < 0 := Int.mul_neg_of_pos_of_neg v2 (by omega)
        omega
    · omega
/-- A wall that is beside another one, or begins behind its end, does not meet it. -/
theorem bar_meet {X V : Wl} (hX : GoodW X) (hV : GoodW V) : (cmpP X.A V.B ≤ 0 ∧ bar1 X V = true) ↔ meetS X.A X.B V.A V.B ≠ 0 := by
  have kX : key X.A < key X.B := (cmp_lt hX.va hX.vb).1 hX.ab
  have kV : key V.A < key V.B := (cmp_lt hV.va hV.vb).1 hV.ab
  have fk : ∀ p : Pt, ff 16777216 1 p = key p := fun p => by unfold ff key; omega
  constructor
  · rintro ⟨_, h⟩
    unfold bar1 at h
    simp only [Bool.and_eq_true, decide_eq_true_eq] at h
    exact h.2
  · intro h
    have h1 : cmpP X.A V.B ≤ 0 := by
      rcases Int.lt_or_le 0 (cmpP X.A V.B) with h0 | h0
      · exfalso
        have hk : key V.B < key X.A := (cmp_lt hV.vb hX.va).1 (by rw [cmpP_neg]; omega)
        refine h ?_
        rw [← meet_sw3]
        exact meet_apart 16777216 1 (key X.A) (by rw [fk]; omega) (by rw [fk]; omega) (by rw [fk]; omega) (by rw [fk]; omega)
      · exact h0
    refine ⟨h1, ?_⟩
    unfold bar1
    simp only [Bool.and_eq_true, decide_eq_true_eq, Bool.not_eq_true']
    refine ⟨?_, h⟩
    have vX := vld_iff.1 hX.va
    have vX2 := vld_iff.1 hX.vb
    have vV := vld_iff.1 hV.va
    have vV2 := vld_iff.1 hV.vb
    have xX : X.A.x ≤ X.B.x := by unfold key at kX; omega
    have xV : V.A.x ≤ V.B.x := by unfold key at kV; omega
    cases hb : bsd X V.A V.B with
    | false => rfl
    | true =>
      exfalso
      refine h ?_
      unfold bsd mxI mnI at hb
      simp only [Bool.or_eq_true, decide_eq_true_eq] at hb
      rcases hb with hb | hb | hb | hb
      · exact meet_apart 1 0 V.A.x (by unfold ff; omega) (by unfold ff; omega) (by unfold ff; omega) (by unfold ff; omega)
      · rw [← meet_sw3]; exact meet_apart 1 0 X.A.x (by unfold ff; omega) (by unfold ff; omega) (by unfold ff; omega) (by unfold ff; omega)
      · refine meet_apart 0 1 (if V.B.y < V.A.y then V.B.y else V.A.y) ?_ ?_ ?_ ?_ <;> unfold ff <;> (repeat' split at *) <;> omega
      · rw [← meet_sw3]; refine meet_apart 0 1 (if X.B.y < X.A.y then X.B.y else X.A.y) ?_ ?_ ?_ ?_ <;> unfold ff <;> (repeat' split at *) <;> omega
/-- No two meet. -/
def Apart (L : List Wl) : Prop := L.Pairwise fun x y => meetS x.A x.B y.A y.B = 0
theorem clash_zero {L : List Wl} {X : Wl} (hX : GoodW X) (hg : ∀ x ∈ L, GoodW x) (h : clashW L X.A X.B = 0) : ∀ x ∈ L, meetS x.A x.B X.A X.B = 0 := by
  intro x hx
  obtain ⟨hA, hB⟩ := good_lo hX
  unfold clashW at h
  rw [hA, hB] at h
  split at h
  · split at h
    · split at h
      · cases h
      · rename_i hb
        by_cases hm : meetS x.A x.B X.A X.B = 0
        · exact hm
        · exfalso
          have hX1 : GoodW (⟨X.A, X.B, 1⟩ : Wl) := ⟨hX.va, hX.vb, hX.ab, .inl rfl⟩
          have := (bar_meet (hg x hx) hX1).2 hm
          refine hb (List.any_eq_true.2 ⟨x, ?_, this.2⟩)
          exact List.mem_filter.2 ⟨hx, by simpa using this.1⟩
    · cases h
  · cases h
theorem apart_add {L : List Wl} {X : Wl} (hg : ∀ x ∈ L, GoodW x) (h : Apart L) : Apart (addL L X) := by
  unfold addL
  split
  · rename_i hc
    have hX := mkOk_good hc.1
    have hz := clash_zero hX hg hc.2
    have hp : (L.take (posW L X.A X.B) ++ X :: L.drop (posW L X.A X.B)).Perm (X :: L) := by
      have := List.perm_middle (a := X) (l₁ := L.take (posW L X.A X.B)) (l₂ := L.drop (posW L X.A X.B))
      rwa [List.take_append_drop] at this
    unfold Apart
    refine (hp.pairwise_iff (fun {x y} e => by rw [← meet_sw3]; exact e)).2 ?_
    rw [List.pairwise_cons]
    exact ⟨fun y hy => by rw [← meet_sw3]; exact hz y hy, h⟩
  · exact h
theorem meet_self1 {X : Wl} (h : GoodW X) : meetS X.A X.B X.A X.B ≠ 0 := by
  have hab : X.A ≠ X.B := fun e => by have := h.ab; rw [e, cmpP_eq0.2 rfl] at this; omega
  rw [meet_sw2, meet_self h.va h.vb hab]; decide
end Go.Proofs.Ytnocdecimcpkfaa

namespace Go.Proofs.Ytnocdecimcpkfaa
open Go.RowKit Go.Sort
attribute [local go_sem] rOper rAt rUpon cell_set sg_i64 sg_u64 alloc_cell alloc_frozen
attribute [local go_sem 10000] pt_eql pt_neq wal_eql wal_neq
attribute [local irreducible] rWalk

set_option maxHeartbeats 400000 in
theorem alike_W (a1 a2 : Option Addr) (c1 c2 : Nat) (L1 L2 : List Wl) (w : World) (h1 : RowAt cW 5 w a1 L1) (h2 : RowAt cW 5 w a2 L2) (hl1 : L1.length ≤ 1000000) :
    Calls Try.prog 22 #[.slice a1 L1.length c1, .slice a2 L2.length c2] w fun e w' => e = .returned (.bool (decide (L1 = L2))) ∧ Below w.heap.size w w' := by
  by_cases hl : L1.length = L2.length
  case neg =>
    have hne : L1 ≠ L2 := fun e => hl (by rw [e])
    have hd : decide (L1 = L2) = false := by simpa using hne
    rw [hd]
    have hb2 : ((L1.length : Int) != L2.length) = true := by rw [bne_iff_ne]; omega
    clear h1 h2 hne hd
    generalize L1.length = n1 at *
    generalize L2.length = n2 at *
    go_enter Try.func22, Try.ntmps22
    go_wp2
    go_ret
    exact ⟨rfl, Below.refl _ _⟩
  case pos =>
    obtain ⟨n, hn1⟩ : ∃ n, L1.length = n := ⟨_, rfl⟩
    have hn2 : L2.length = n := by rw [← hl, hn1]
    have hb2 : ((n : Int) != n) = false := by simp
    rw [hn1, hn2]
    have hn : n ≤ 1000000 := hn1 ▸ hl1
    have H1 := Lib.hid hn1
    have H2 := Lib.hid hn2
    clear hn1 hn2 hl hl1
    go_enter Try.func22, Try.ntmps22
    go_wp2
    go_loopw [5] (fun i wr => ∃ k : Nat, k ≤ n ∧ i = .int .i64 k ∧ Hid (L1.take k = L2.take k) ∧ Below w.heap.size w wr) (fun i _ => n - (intOf i).toNat)
    case atStart => exact ⟨0, Nat.zero_le _, rfl, Lib.hid rfl, Below.refl _ _⟩
    case round =>
      obtain ⟨k, hk, rfl, hT, hw⟩ := hrel
      by_cases hlt : k < n
      · have r1 := h1.ext hw rfl
        have r2 := h2.ext hw rfl
        obtain ⟨ad1, A1, ea1, eA1, hA1⟩ := r1.five (j := k) (by rw [H1.out]; exact hlt)
        obtain ⟨_, q0, q1, q2, q3, q4⟩ := hA1.facts
        obtain ⟨ad2, A2, ea2, eA2, hA2⟩ := r2.five (j := k) (by rw [H2.out]; exact hlt)
        obtain ⟨_, p0, p1, p2, p3, p4⟩ := hA2.facts
        clear r1 r2 hA1 hA2
        have e1 : L1[k]'(by rw [H1.out]; exact hlt) = L1[k]'(by rw [H1.out]; exact hlt) := rfl
        by_cases he : L1[k]'(by rw [H1.out]; exact hlt) = L2[k]'(by rw [H2.out]; exact hlt)
        · have hd : weqI (L1[k]'(by rw [H1.out]; exact hlt)).A.x (L1[k]'(by rw [H1.out]; exact hlt)).A.y (L1[k]'(by rw [H1.out]; exact hlt)).B.x (L1[k]'(by rw [H1.out]; exact hlt)).B.y (L1[k]'(by rw [H1.out]; exact hlt)).K (L2[k]'(by rw [H2.out]; exact hlt)).A.x (L2[k]'(by rw [H2.out]; exact hlt)).A.y (L2[k]'(by rw [H2.out]; exact hlt)).B.x (L2[k]'(by rw [H2.out]; exact hlt)).B.y (L2[k]'(by rw [H2.out]; exact hlt)).K = true := weqI_iff.2 he
          have HE := Lib.hid he
          clear he e1
          go_wp2
          go_quiet (fail)
          go_wp2
          go_roundw
          case rel => 
            refine ⟨k + 1, by omega, by go_num, Lib.hid ?_, ?_⟩
            · rw [List.take_succ_eq_append_getElem (by rw [H1.out]; exact hlt), List.take_succ_eq_append_getElem (by rw [H2.out]; exact hlt), hT.out, HE.out]
            · exact hw.trans ⟨rfl, rfl, rfl, Nat.le_refl _, fun _ _ => rfl⟩
          case measure => simp [intOf]; omega
        · have hd : weqI (L1[k]'(by rw [H1.out]; exact hlt)).A.x (L1[k]'(by rw [H1.out]; exact hlt)).A.y (L1[k]'(by rw [H1.out]; exact hlt)).B.x (L1[k]'(by rw [H1.out]; exact hlt)).B.y (L1[k]'(by rw [H1.out]; exact hlt)).K (L2[k]'(by rw [H2.out]; exact hlt)).A.x (L2[k]'(by rw [H2.out]; exact hlt)).A.y (L2[k]'(by rw [H2.out]; exact hlt)).B.x (L2[k]'(by rw [H2.out]; exact hlt)).B.y (L2[k]'(by rw [H2.out]; exact hlt)).K = false := by rw [← Bool.not_eq_true, weqI_iff]; exact he
          have hne : decide (L1 = L2) = false := by rw [decide_eq_false_iff_not]; intro e; subst e; exact he rfl
          have HN := Lib.hid hne
          clear he e1 hne
          go_wp2
          go_quiet (fail)
          go_wp2
          go_ret
          exact ⟨ret_bool HN.out.symm, hw.trans ⟨rfl, rfl, rfl, Nat.le_refl _, fun _ _ => rfl⟩⟩
      · have he : L1 = L2 := by
          have := hT.out
          rwa [List.take_of_length_le (by rw [H1.out]; omega), List.take_of_length_le (by rw [H2.out]; omega)] at this
        have hd : decide (L1 = L2) = true := by simpa using he
        have HN := Lib.hid hd
        clear he hd
        go_wp2
        go_ret
        exact ⟨ret_bool HN.out.symm, hw⟩
theorem rcmpW_0 (S T : Wl) (h0 : ¬ cmpP S.A T.A = 0) (w : World) :
    Calls Try.prog 28 #[.agg #[.int .i64 S.A.x, .int .i64 S.A.y, .int .i64 S.B.x, .int .i64 S.B.y, .int .i64 S.K], .agg #[.int .i64 T.A.x, .int .i64 T.A.y, .int .i64 T.B.x, .int .i64 T.B.y, .int .i64 T.K]] w fun e w' => e = .returned (.int .i64 (cmpP S.A T.A)) ∧ Below w.heap.size w w' := by
  have c1 := rcmp_pt S.A T.A
  have hd : (cmpP S.A T.A == 0) = false := by simpa using h0
  clear h0
  generalize cmpP S.A T.A = n at *
  go_enter Try.func28, Try.ntmps28
  go_wp2_with fail
  refine at_call fun W1 hW => ?_
  have Bs : Box W1 (w.heap.size) [.int .i64 S.A.x, .int .i64 S.A.y, .int .i64 S.B.x, .int .i64 S.B.y, .int .i64 S.K] 35 := by rw [hW]; exact (Box.new rfl).old _
  have Bt : Box W1 (w.heap.size + 1) [.int .i64 T.A.x, .int .i64 T.A.y, .int .i64 T.B.x, .int .i64 T.B.y, .int .i64 T.K] 35 := by rw [hW]; exact Box.new (by simp)
  have hw : Below w.heap.size w W1 := by rw [hW]; go_grown
  clear hW
  refine (c1 _).mono ?_
  rintro e w2 ⟨rfl, hb⟩
  replace Bs := Bs.ext hb rfl
  replace Bt := Bt.ext hb rfl
  replace hw := hw.trans (hb.mono hw.size)
  clear hb
  obtain ⟨xs, ys, zs, vs⟩ := Bs.facts
  obtain ⟨xt, yt, zt, vt⟩ := Bt.facts
  go_wp2
  go_ret
  exact ⟨rfl, by have hl := hw.size; go_grown⟩

theorem rcmpW_1 (S T : Wl) (h0 : cmpP S.A T.A = 0) (h1 : ¬ cmpP S.B T.B = 0) (w : World) :
    Calls Try.prog 28 #[.agg #[.int .i64 S.A.x, .int .i64 S.A.y, .int .i64 S.B.x, .int .i64 S.B.y, .int .i64 S.K], .agg #[.int .i64 T.A.x, .int .i64 T.A.y, .int .i64 T.B.x, .int .i64 T.B.y, .int .i64 T.K]] w fun e w' => e = .returned (.int .i64 (cmpP S.B T.B)) ∧ Below w.heap.size w w' := by
  have c1 := rcmp_pt S.A T.A
  have c2 := rcmp_pt S.B T.B
  rw [h0] at c1
  have hd : (cmpP S.B T.B == 0) = false := by simpa using h1
  clear h0 h1
  generalize cmpP S.B T.B = n at *
  go_enter Try.func28, Try.ntmps28
  go_wp2_with fail
  refine at_call fun W1 hW => ?_
  have Bs : Box W1 (w.heap.size) [.int .i64 S.A.x, .int .i64 S.A.y, .int .i64 S.B.x, .int .i64 S.B.y, .int .i64 S.K] 35 := by rw [hW]; exact (Box.new rfl).old _
  have Bt : Box W1 (w.heap.size + 1) [.int .i64 T.A.x, .int .i64 T.A.y, .int .i64 T.B.x, .int .i64 T.B.y, .int .i64 T.K] 35 := by rw [hW]; exact Box.new (by simp)
  have hw : Below w.heap.size w W1 := by rw [hW]; go_grown
  clear hW
  refine (c1 _).mono ?_
  rintro e w2 ⟨rfl, hb⟩
  replace Bs := Bs.ext hb rfl
  replace Bt := Bt.ext hb rfl
  replace hw := hw.trans (hb.mono hw.size)
  clear hb
  obtain ⟨xs, ys, zs, vs⟩ := Bs.facts
  obtain ⟨xt, yt, zt, vt⟩ := Bt.facts
  go_wp2_with fail
  refine (c2 _).mono ?_
  rintro e w3 ⟨rfl, hb⟩
  clear xs ys zs vs xt yt zt vt
  replace Bs := Bs.ext hb rfl
  replace Bt := Bt.ext hb rfl
  replace hw := hw.trans (hb.mono hw.size)
  clear hb
  obtain ⟨xs, ys, zs, vs⟩ := Bs.facts
  obtain ⟨xt, yt, zt, vt⟩ := Bt.facts
  go_wp2
  go_ret
  exact ⟨rfl, by have hl := hw.size; go_grown⟩

theorem rcmpW_2 (S T : Wl) (h0 : cmpP S.A T.A = 0) (h1 : cmpP S.B T.B = 0) (hs : 0 ≤ S.K ∧ S.K ≤ 2) (ht : 0 ≤ T.K ∧ T.K ≤ 2) (w : World) :
    Calls Try.prog 28 #[.agg #[.int .i64 S.A.x, .int .i64 S.A.y, .int .i64 S.B.x, .int .i64 S.B.y, .int .i64 S.K], .agg #[.int .i64 T.A.x, .int .i64 T.A.y, .int .i64 T.B.x, .int .i64 T.B.y, .int .i64 T.K]] w fun e w' => e = .returned (.int .i64 (cmpN S.K T.K)) ∧ Below w.heap.size w w' := by
  have c1 := rcmp_pt S.A T.A
  have c2 := rcmp_pt S.B T.B
  rw [h0] at c1
  rw [h1] at c2
  have c3 : ∀ W : World, Calls Try.prog 54 #[.int .i64 (S.K - T.K)] W fun e w' => e = .returned (.int .i64 (sgn (S.K - T.K))) ∧ Below W.heap.size W w' := fun W => (rsign_any (S.K - T.K) W).mono fun _ _ ⟨h1, h2⟩ => ⟨h1, by rw [h2]; exact Below.refl _ _⟩
  have hw0 : wrap64 (S.K - T.K) = S.K - T.K := by rw [w64]; omega
  rw [show cmpN S.K T.K = sgn (S.K - T.K) by rfl]
  generalize sgn (S.K - T.K) = n at *
  clear h0 h1
  go_enter Try.func28, Try.ntmps28
  go_wp2_with fail
  refine at_call fun W1 hW => ?_
  have Bs : Box W1 (w.heap.size) [.int .i64 S.A.x, .int .i64 S.A.y, .int .i64 S.B.x, .int .i64 S.B.y, .int .i64 S.K] 35 := by rw [hW]; exact (Box.new rfl).old _
  have Bt : Box W1 (w.heap.size + 1) [.int .i64 T.A.x, .int .i64 T.A.y, .int .i64 T.B.x, .int .i64 T.B.y, .int .i64 T.K] 35 := by rw [hW]; exact Box.new (by simp)
  have hw : Below w.heap.size w W1 := by rw [hW]; go_grown
  clear hW
  refine (c1 _).mono ?_
  rintro e w2 ⟨rfl, hb⟩
  replace Bs := Bs.ext hb rfl
  replace Bt := Bt.ext hb rfl
  replace hw := hw.trans (hb.mono hw.size)
  clear hb
  obtain ⟨xs, ys, zs, vs⟩ := Bs.facts
  obtain ⟨xt, yt, zt, vt⟩ := Bt.facts
  go_wp2_with fail
  refine (c2 _).mono ?_
  rintro e w3 ⟨rfl, hb⟩
  clear xs ys zs vs xt yt zt vt
  replace Bs := Bs.ext hb rfl
  replace Bt := Bt.ext hb rfl
  replace hw := hw.trans (hb.mono hw.size)
  clear hb
  obtain ⟨xs, ys, zs, vs⟩ := Bs.facts
  obtain ⟨xt, yt, zt, vt⟩ := Bt.facts
  go_wp2_with fail
  refine (c3 _).mono ?_
  rintro e w4 ⟨rfl, hb⟩
  clear xs ys zs vs xt yt zt vt
  replace Bs := Bs.ext hb rfl
  replace Bt := Bt.ext hb rfl
  replace hw := hw.trans (hb.mono hw.size)
  clear hb
  obtain ⟨xs, ys, zs, vs⟩ := Bs.facts
  obtain ⟨xt, yt, zt, vt⟩ := Bt.facts
  go_wp2
  go_ret
  exact ⟨rfl, by have hl := hw.size; go_grown⟩

theorem rcmpW_any (S T : Wl) (hs : 0 ≤ S.K ∧ S.K ≤ 2) (ht : 0 ≤ T.K ∧ T.K ≤ 2) (w : World) :
    Calls Try.prog 28 #[.agg #[.int .i64 S.A.x, .int .i64 S.A.y, .int .i64 S.B.x, .int .i64 S.B.y, .int .i64 S.K], .agg #[.int .i64 T.A.x, .int .i64 T.A.y, .int .i64 T.B.x, .int .i64 T.B.y, .int .i64 T.K]] w fun e w' => e = .returned (.int .i64 (cmpW S T)) ∧ Below w.heap.size w w' := by
  by_cases h0 : cmpP S.A T.A = 0
  · by_cases h1 : cmpP S.B T.B = 0
    · rw [show cmpW S T = cmpN S.K T.K by unfold cmpW; simp [h0, h1]]; exact rcmpW_2 S T h0 h1 hs ht w
    · rw [show cmpW S T = cmpP S.B T.B by unfold cmpW; simp [h0, h1]]; exact rcmpW_1 S T h0 h1 w
  · rw [show cmpW S T = cmpP S.A T.A by unfold cmpW; simp [h0]]; exact rcmpW_0 S T h0 w
end Go.Proofs.Ytnocdecimcpkfaa

namespace Go.Proofs.Ytnocdecimcpkfaa
open Go.RowKit Go.Sort
attribute [local go_sem] rOper rAt rUpon cell_set sg_i64 sg_u64 alloc_cell alloc_frozen
attribute [local go_sem 10000] pt_eql pt_neq wal_eql wal_neq
attribute [local irreducible] rWalk

set_option maxRecDepth 100000 in
set_option maxHeartbeats 4000000 in
theorem awake_any  (w : World) :
    Calls Try.prog 7 #[] w fun e w' => e = .returned (.bool true) ∧ Below w.heap.size w w' := by
  go_enter Try.func7, Try.ntmps7
  go_wp2_with fail
  refine at_call fun W1 hW => ?_
  have Ba : Box W1 (w.heap.size) [.int .i64 0, .int .i64 0] 33 := by rw [hW]; exact (Box.new rfl).old _
  have Bb : Box W1 (w.heap.size + 1) [.int .i64 2, .int .i64 0] 33 := by rw [hW]; exact Box.new (by simp)
  have hw : Below w.heap.size w W1 := by rw [hW]; go_grown
  clear hW
  obtain ⟨m1, m2⟩ := num_mk
  obtain ⟨n1, n2⟩ := num_no
  have c1 := make_any pB pA 1
  have c2 := make_any pA pA 1
  rw [m1, m2] at c1
  rw [n1, n2] at c2
  simp only [pA, pB, wAB] at c1 c2
  refine (c1 _).mono ?_
  rintro e w2 ⟨rfl, hb⟩
  replace Ba := Ba.ext hb rfl
  replace Bb := Bb.ext hb rfl
  replace hw := hw.trans (hb.mono hw.size)
  clear hb
  obtain ⟨xa, ya, za, va⟩ := Ba.facts
  obtain ⟨xb, yb, zb, vb⟩ := Bb.facts
  go_wp2_with fail
  refine at_call fun W3 hW => ?_
  obtain ⟨bkw, hbw⟩ : ∃ b, w2.heap.size = b := ⟨_, rfl⟩
  rw [hbw]
  have law := Ba.lt
  rw [hbw] at law
  have lbw := Bb.lt
  rw [hbw] at lbw
  have fw := hw.size
  rw [hbw] at fw
  have Bw : Box W3 bkw [.int .i64 0, .int .i64 0, .int .i64 2, .int .i64 0, .int .i64 1] 35 := by rw [hW]; exact Box.new hbw.symm
  replace Ba : Box W3 (w.heap.size) [.int .i64 0, .int .i64 0] 33 := by rw [hW]; exact Ba.old _
  replace Bb : Box W3 (w.heap.size + 1) [.int .i64 2, .int .i64 0] 33 := by rw [hW]; exact Bb.old _
  replace hw : Below w.heap.size w W3 := by have hl := hw.size; rw [hW]; go_grown
  clear hW hbw
  refine (c2 _).mono ?_
  rintro e w4 ⟨rfl, hb⟩
  clear xa ya za va xb yb zb vb
  replace Ba := Ba.ext hb rfl
  replace Bb := Bb.ext hb rfl
  replace Bw := Bw.ext hb rfl
  replace hw := hw.trans (hb.mono hw.size)
  clear hb
  obtain ⟨xa, ya, za, va⟩ := Ba.facts
  obtain ⟨xb, yb, zb, vb⟩ := Bb.facts
  obtain ⟨xw, yw, zw, vw⟩ := Bw.facts
  go_wp2_with fail
  refine at_call fun W5 hW => ?_
  obtain ⟨bkx, hbx⟩ : ∃ b, w4.heap.size = b := ⟨_, rfl⟩
  rw [hbx]
  have lax := Ba.lt
  rw [hbx] at lax
  have lbx := Bb.lt
  rw [hbx] at lbx
  have lwx := Bw.lt
  rw [hbx] at lwx
  have fx := hw.size
  rw [hbx] at fx
  have Bx : Box W5 (bkx) [.int .i64 0, .int .i64 0, .int .i64 0, .int .i64 0, .int .i64 0] 35 := by rw [hW, ← hbx]; exact (Box.new rfl).old _
  have Bl1 : Box W5 (bkx + 1) [.int .i64 0, .int .i64 0, .int .i64 2, .int .i64 0, .int .i64 1] 35 := by rw [hW, ← hbx]; exact Box.new (by simp)
  replace Ba : Box W5 (w.heap.size) [.int .i64 0, .int .i64 0] 33 := by rw [hW]; exact ((Ba).old _).old _
  replace Bb : Box W5 (w.heap.size + 1) [.int .i64 2, .int .i64 0] 33 := by rw [hW]; exact ((Bb).old _).old _
  replace Bw : Box W5 (bkw) [.int .i64 0, .int .i64 0, .int .i64 2, .int .i64 0, .int .i64 1] 35 := by rw [hW]; exact ((Bw).old _).old _
  replace hw : Below w.heap.size w W5 := by have hl := hw.size; rw [hW]; go_grown
  clear hW hbx
  refine (new_one wAB num_good _ W5 Bl1).mono ?_
  rintro e w6 ⟨sb, v, rfl, S, hs0, hv0, hb⟩
  clear xa ya za va xb yb zb vb xw yw zw vw
  have la0 := Ba.lt
  replace Ba := Ba.ext hb rfl
  have lb0 := Bb.lt
  replace Bb := Bb.ext hb rfl
  have lw0 := Bw.lt
  replace Bw := Bw.ext hb rfl
  have lx0 := Bx.lt
  replace Bx := Bx.ext hb rfl
  have ll10 := Bl1.lt
  replace Bl1 := Bl1.ext hb rfl
  have hsb : w.heap.size ≤ sb := Nat.le_trans hw.size hs0
  have hv : ∀ g, v.ownBlock = some g → w.heap.size ≤ g := fun g e => Nat.le_trans hw.size (hv0 g e)
  have nFa : ¬ Foot sb v _ := foot_old la0 hs0 hv0
  have nFb : ¬ Foot sb v _ := foot_old lb0 hs0 hv0
  have nFw : ¬ Foot sb v _ := foot_old lw0 hs0 hv0
  have nFx : ¬ Foot sb v _ := foot_old lx0 hs0 hv0
  have nFl1 : ¬ Foot sb v _ := foot_old ll10 hs0 hv0
  replace hw := hw.trans (hb.mono hw.size)
  clear hb
  obtain ⟨xa, ya, za, va⟩ := Ba.facts
  obtain ⟨xb, yb, zb, vb⟩ := Bb.facts
  obtain ⟨xw, yw, zw, vw⟩ := Bw.facts
  obtain ⟨xx, yx, zx, vx⟩ := Bx.facts
  go_wp2_with fail
  refine at_call fun W7 hW => ?_
  obtain ⟨bkl2, hbl2⟩ : ∃ b, w6.heap.size = b := ⟨_, rfl⟩
  rw [hbl2]
  have lal2 := Ba.lt
  rw [hbl2] at lal2
  have lbl2 := Bb.lt
  rw [hbl2] at lbl2
  have lwl2 := Bw.lt
  rw [hbl2] at lwl2
  have lxl2 := Bx.lt
  rw [hbl2] at lxl2
  have fl2 := hw.size
  rw [hbl2] at fl2
  have Bl2 : Box W7 bkl2 [.int .i64 0, .int .i64 0, .int .i64 2, .int .i64 0, .int .i64 1, .int .i64 0, .int .i64 0, .int .i64 2, .int .i64 0, .int .i64 1] 35 := by rw [hW]; exact Box.new hbl2.symm
  replace Ba : Box W7 (w.heap.size) [.int .i64 0, .int .i64 0] 33 := by rw [hW]; exact Ba.old _
  replace Bb : Box W7 (w.heap.size + 1) [.int .i64 2, .int .i64 0] 33 := by rw [hW]; exact Bb.old _
  replace Bw : Box W7 (bkw) [.int .i64 0, .int .i64 0, .int .i64 2, .int .i64 0, .int .i64 1] 35 := by rw [hW]; exact Bw.old _
  replace Bx : Box W7 (bkx) [.int .i64 0, .int .i64 0, .int .i64 0, .int .i64 0, .int .i64 0] 35 := by rw [hW]; exact Bx.old _
  replace hw : Below w.heap.size w W7 := by have hl := hw.size; rw [hW]; go_grown
  replace S : SetAt W7 sb v [wAB] := by rw [hW]; exact (S.alloc _)
  clear hW hbl2
  refine (new_twins wAB num_good _ W7 Bl2).mono ?_
  rintro e w8 ⟨rfl, hb⟩
  clear xa ya za va xb yb zb vb xw yw zw vw xx yx zx vx
  replace Ba := Ba.ext hb rfl
  replace Bb := Bb.ext hb rfl
  replace Bw := Bw.ext hb rfl
  replace Bx := Bx.ext hb rfl
  replace Bl2 := Bl2.ext hb rfl
  replace S := S.ext hb rfl
  replace hw := hw.trans (hb.mono hw.size)
  clear hb
  obtain ⟨xa, ya, za, va⟩ := Ba.facts
  obtain ⟨xb, yb, zb, vb⟩ := Bb.facts
  obtain ⟨xw, yw, zw, vw⟩ := Bw.facts
  obtain ⟨xx, yx, zx, vx⟩ := Bx.facts
  go_wp2_with fail
  refine at_call fun W9 hW => ?_
  obtain ⟨bkl3, hbl3⟩ : ∃ b, w8.heap.size = b := ⟨_, rfl⟩
  rw [hbl3]
  have lal3 := Ba.lt
  rw [hbl3] at lal3
  have lbl3 := Bb.lt
  rw [hbl3] at lbl3
  have lwl3 := Bw.lt
  rw [hbl3] at lwl3
  have lxl3 := Bx.lt
  rw [hbl3] at lxl3
  have fl3 := hw.size
  rw [hbl3] at fl3
  have Bl3 : Box W9 bkl3 [.int .i64 2, .int .i64 0, .int .i64 0, .int .i64 0, .int .i64 1] 35 := by rw [hW]; exact Box.new hbl3.symm
  replace Ba : Box W9 (w.heap.size) [.int .i64 0, .int .i64 0] 33 := by rw [hW]; exact Ba.old _
  replace Bb : Box W9 (w.heap.size + 1) [.int .i64 2, .int .i64 0] 33 := by rw [hW]; exact Bb.old _
  replace Bw : Box W9 (bkw) [.int .i64 0, .int .i64 0, .int .i64 2, .int .i64 0, .int .i64 1] 35 := by rw [hW]; exact Bw.old _
  replace Bx : Box W9 (bkx) [.int .i64 0, .int .i64 0, .int .i64 0, .int .i64 0, .int .i64 0] 35 := by rw [hW]; exact Bx.old _
  replace hw : Below w.heap.size w W9 := by have hl := hw.size; rw [hW]; go_grown
  replace S : SetAt W9 sb v [wAB] := by rw [hW]; exact (S.alloc _)
  clear hW hbl3
  refine (new_unmade ⟨pB, pA, 1⟩ num_bad _ W9 Bl3).mono ?_
  rintro e w10 ⟨rfl, hb⟩
  clear xa ya za va xb yb zb vb xw yw zw vw xx yx zx vx
  replace Ba := Ba.ext hb rfl
  replace Bb := Bb.ext hb rfl
  replace Bw := Bw.ext hb rfl
  replace Bx := Bx.ext hb rfl
  replace Bl3 := Bl3.ext hb rfl
  replace S := S.ext hb rfl
  replace hw := hw.trans (hb.mono hw.size)
  clear hb
  obtain ⟨xa, ya, za, va⟩ := Ba.facts
  obtain ⟨xb, yb, zb, vb⟩ := Bb.facts
  obtain ⟨xw, yw, zw, vw⟩ := Bw.facts
  obtain ⟨xx, yx, zx, vx⟩ := Bx.facts
  go_wp2_with fail
  obtain ⟨a0, cc, hvf, R⟩ := S.rd
  have co := on_set_any sb a0 cc 1 [wAB] pM w10 R
  rw [num_on] at co
  simp only [onV, wAB, pM] at co
  clear R hvf
  refine (co).mono ?_
  rintro e w11 ⟨rfl, hb⟩
  clear xa ya za va xb yb zb vb xw yw zw vw xx yx zx vx
  replace Ba := Ba.ext hb rfl
  replace Bb := Bb.ext hb rfl
  replace Bw := Bw.ext hb rfl
  replace Bx := Bx.ext hb rfl
  replace S := S.ext hb rfl
  replace hw := hw.trans (hb.mono hw.size)
  clear hb
  obtain ⟨xa, ya, za, va⟩ := Ba.facts
  obtain ⟨xb, yb, zb, vb⟩ := Bb.facts
  obtain ⟨xw, yw, zw, vw⟩ := Bw.facts
  obtain ⟨xx, yx, zx, vx⟩ := Bx.facts
  go_wp2_with fail
  refine at_call fun W12 hW => ?_
  obtain ⟨bko, hbo⟩ : ∃ b, w11.heap.size = b := ⟨_, rfl⟩
  rw [hbo]
  have lao := Ba.lt
  rw [hbo] at lao
  have lbo := Bb.lt
  rw [hbo] at lbo
  have lwo := Bw.lt
  rw [hbo] at lwo
  have lxo := Bx.lt
  rw [hbo] at lxo
  have fo := hw.size
  rw [hbo] at fo
  have Bo : Box W12 bko [.int .i64 0, .int .i64 0, .int .i64 2, .int .i64 0, .int .i64 1] 35 := by rw [hW]; exact Box.new hbo.symm
  replace Ba : Box W12 (w.heap.size) [.int .i64 0, .int .i64 0] 33 := by rw [hW]; exact Ba.old _
  replace Bb : Box W12 (w.heap.size + 1) [.int .i64 2, .int .i64 0] 33 := by rw [hW]; exact Bb.old _
  replace Bw : Box W12 (bkw) [.int .i64 0, .int .i64 0, .int .i64 2, .int .i64 0, .int .i64 1] 35 := by rw [hW]; exact Bw.old _
  replace Bx : Box W12 (bkx) [.int .i64 0, .int .i64 0, .int .i64 0, .int .i64 0, .int .i64 0] 35 := by rw [hW]; exact Bx.old _
  replace hw : Below w.heap.size w W12 := by have hl := hw.size; rw [hW]; go_grown
  have nFo : ¬ Foot sb v bko := foot_new S (by omega)
  replace S : SetAt W12 sb v [wAB] := by rw [hW]; exact (S.alloc _)
  clear hW hbo
  refine (add_any sb v [wAB] wMN (by decide) _ S).mono ?_
  rintro e w13 ⟨v2, rfl, S2, hfr, hfs⟩
  clear xa ya za va xb yb zb vb xw yw zw vw xx yx zx vx
  have Bal := Ba.lt
  have Bbl := Bb.lt
  have Bwl := Bw.lt
  have Bxl := Bx.lt
  have Bol := Bo.lt
  replace Ba := hfr.box Ba nFa
  replace Bb := hfr.box Bb nFb
  replace Bw := hfr.box Bw nFw
  replace Bx := hfr.box Bx nFx
  replace Bo := hfr.box Bo nFo
  replace nFa := foot_fresh hfs nFa (by first | exact Bal | exact Nat.lt_succ_of_lt Bal)
  replace nFb := foot_fresh hfs nFb (by first | exact Bbl | exact Nat.lt_succ_of_lt Bbl)
  replace nFw := foot_fresh hfs nFw (by first | exact Bwl | exact Nat.lt_succ_of_lt Bwl)
  replace nFx := foot_fresh hfs nFx (by first | exact Bxl | exact Nat.lt_succ_of_lt Bxl)
  replace nFo := foot_fresh hfs nFo (by first | exact Bol | exact Nat.lt_succ_of_lt Bol)
  have hv2 := fresh_lo hfs hv (by first | exact hw.size | exact Nat.le_succ_of_le hw.size)
  replace hw := hw.trans (hfr.below (foot_lo hsb hv) hw.size)
  have S := S2
  clear S2 hfr hfs
  rw [num_add.1]
  rw [num_add.2] at S
  replace hv := hv2
  clear hv2
  obtain ⟨xa, ya, za, va⟩ := Ba.facts
  obtain ⟨xb, yb, zb, vb⟩ := Bb.facts
  obtain ⟨xw, yw, zw, vw⟩ := Bw.facts
  obtain ⟨xx, yx, zx, vx⟩ := Bx.facts
  obtain ⟨xo, yo, zo, vo⟩ := Bo.facts
  go_wp2_with fail
  refine (rem_any sb v2 [wAB] pB pA _ S).mono ?_
  rintro e w14 ⟨v3, rfl, S2, hfr, hfs⟩
  clear xa ya za va xb yb zb vb xw yw zw vw xx yx zx vx xo yo zo vo
  have Bal := Ba.lt
  have Bbl := Bb.lt
  have Bwl := Bw.lt
  have Bxl := Bx.lt
  have Bol := Bo.lt
  replace Ba := hfr.box Ba nFa
  replace Bb := hfr.box Bb nFb
  replace Bw := hfr.box Bw nFw
  replace Bx := hfr.box Bx nFx
  replace Bo := hfr.box Bo nFo
  replace nFa := foot_fresh hfs nFa (by first | exact Bal | exact Nat.lt_succ_of_lt Bal)
  replace nFb := foot_fresh hfs nFb (by first | exact Bbl | exact Nat.lt_succ_of_lt Bbl)
  replace nFw := foot_fresh hfs nFw (by first | exact Bwl | exact Nat.lt_succ_of_lt Bwl)
  replace nFx := foot_fresh hfs nFx (by first | exact Bxl | exact Nat.lt_succ_of_lt Bxl)
  replace nFo := foot_fresh hfs nFo (by first | exact Bol | exact Nat.lt_succ_of_lt Bol)
  have hv2 := fresh_lo hfs hv (by first | exact hw.size | exact Nat.le_succ_of_le hw.size)
  replace hw := hw.trans (hfr.below (foot_lo hsb hv) hw.size)
  have S := S2
  clear S2 hfr hfs
  rw [num_rem.1]
  rw [num_rem.2] at S
  replace hv := hv2
  clear hv2
  obtain ⟨xa, ya, za, va⟩ := Ba.facts
  obtain ⟨xb, yb, zb, vb⟩ := Bb.facts
  obtain ⟨xw, yw, zw, vw⟩ := Bw.facts
  obtain ⟨xx, yx, zx, vx⟩ := Bx.facts
  obtain ⟨xo, yo, zo, vo⟩ := Bo.facts
  go_wp2_with fail
  obtain ⟨a1, cc1, hvf1, R1⟩ := S.rd
  have cq := clash_any sb a1 cc1 0 [] pB pA w14 R1
  rw [num_clash] at cq
  clear R1 hvf1
  refine (cq).mono ?_
  rintro e w15 ⟨rfl, hb⟩
  clear xa ya za va xb yb zb vb xw yw zw vw xx yx zx vx xo yo zo vo
  replace Ba := Ba.ext hb rfl
  replace Bb := Bb.ext hb rfl
  replace Bw := Bw.ext hb rfl
  replace Bx := Bx.ext hb rfl
  replace Bo := Bo.ext hb rfl
  replace S := S.ext hb rfl
  replace hw := hw.trans (hb.mono hw.size)
  clear hb
  obtain ⟨xa, ya, za, va⟩ := Ba.facts
  obtain ⟨xb, yb, zb, vb⟩ := Bb.facts
  obtain ⟨xw, yw, zw, vw⟩ := Bw.facts
  obtain ⟨xx, yx, zx, vx⟩ := Bx.facts
  obtain ⟨xo, yo, zo, vo⟩ := Bo.facts
  go_wp2_with fail
  obtain ⟨a2, cc2, hvf2, R2⟩ := S.rd
  have cl := len_any sb a2 cc2 0 [] w15 R2
  clear R2 hvf2
  refine (cl).mono ?_
  rintro e w16 ⟨rfl, hb⟩
  clear xa ya za va xb yb zb vb xw yw zw vw xx yx zx vx xo yo zo vo
  replace Ba := Ba.ext hb rfl
  replace Bb := Bb.ext hb rfl
  replace Bw := Bw.ext hb rfl
  replace Bx := Bx.ext hb rfl
  replace Bo := Bo.ext hb rfl
  replace S := S.ext hb rfl
  replace hw := hw.trans (hb.mono hw.size)
  clear hb
  obtain ⟨xa, ya, za, va⟩ := Ba.facts
  obtain ⟨xb, yb, zb, vb⟩ := Bb.facts
  obtain ⟨xw, yw, zw, vw⟩ := Bw.facts
  obtain ⟨xx, yx, zx, vx⟩ := Bx.facts
  obtain ⟨xo, yo, zo, vo⟩ := Bo.facts
  go_wp2_with fail
  refine (rem_any sb v3 [] pA pB _ S).mono ?_
  rintro e w17 ⟨v4, rfl, S2, hfr, hfs⟩
  clear xa ya za va xb yb zb vb xw yw zw vw xx yx zx vx xo yo zo vo
  have Bal := Ba.lt
  have Bbl := Bb.lt
  have Bwl := Bw.lt
  have Bxl := Bx.lt
  have Bol := Bo.lt
  replace Ba := hfr.box Ba nFa
  replace Bb := hfr.box Bb nFb
  replace Bw := hfr.box Bw nFw
  replace Bx := hfr.box Bx nFx
  replace Bo := hfr.box Bo nFo
  replace nFa := foot_fresh hfs nFa (by first | exact Bal | exact Nat.lt_succ_of_lt Bal)
  replace nFb := foot_fresh hfs nFb (by first | exact Bbl | exact Nat.lt_succ_of_lt Bbl)
  replace nFw := foot_fresh hfs nFw (by first | exact Bwl | exact Nat.lt_succ_of_lt Bwl)
  replace nFx := foot_fresh hfs nFx (by first | exact Bxl | exact Nat.lt_succ_of_lt Bxl)
  replace nFo := foot_fresh hfs nFo (by first | exact Bol | exact Nat.lt_succ_of_lt Bol)
  have hv2 := fresh_lo hfs hv (by first | exact hw.size | exact Nat.le_succ_of_le hw.size)
  replace hw := hw.trans (hfr.below (foot_lo hsb hv) hw.size)
  have S := S2
  clear S2 hfr hfs
  rw [num_rem0.1]
  rw [num_rem0.2] at S
  replace hv := hv2
  clear hv2
  obtain ⟨xa, ya, za, va⟩ := Ba.facts
  obtain ⟨xb, yb, zb, vb⟩ := Bb.facts
  obtain ⟨xw, yw, zw, vw⟩ := Bw.facts
  obtain ⟨xx, yx, zx, vx⟩ := Bx.facts
  obtain ⟨xo, yo, zo, vo⟩ := Bo.facts
  go_wp2_with fail
  refine (kind_nil pA pB _).mono ?_
  rintro e w18 ⟨rfl, hb⟩
  clear xa ya za va xb yb zb vb xw yw zw vw xx yx zx vx xo yo zo vo
  replace Ba := Ba.ext hb rfl
  replace Bb := Bb.ext hb rfl
  replace Bw := Bw.ext hb rfl
  replace Bx := Bx.ext hb rfl
  replace Bo := Bo.ext hb rfl
  replace S := S.ext hb rfl
  replace hw := hw.trans (hb.mono hw.size)
  clear hb
  obtain ⟨xa, ya, za, va⟩ := Ba.facts
  obtain ⟨xb, yb, zb, vb⟩ := Bb.facts
  obtain ⟨xw, yw, zw, vw⟩ := Bw.facts
  obtain ⟨xx, yx, zx, vx⟩ := Bx.facts
  obtain ⟨xo, yo, zo, vo⟩ := Bo.facts
  go_wp2_with fail
  refine (add_nil wAB (good_unm num_good) _).mono ?_
  rintro e w19 ⟨rfl, hb⟩
  clear xa ya za va xb yb zb vb xw yw zw vw xx yx zx vx xo yo zo vo
  replace Ba := Ba.ext hb rfl
  replace Bb := Bb.ext hb rfl
  replace Bw := Bw.ext hb rfl
  replace Bx := Bx.ext hb rfl
  replace Bo := Bo.ext hb rfl
  replace S := S.ext hb rfl
  replace hw := hw.trans (hb.mono hw.size)
  clear hb
  obtain ⟨xa, ya, za, va⟩ := Ba.facts
  obtain ⟨xb, yb, zb, vb⟩ := Bb.facts
  obtain ⟨xw, yw, zw, vw⟩ := Bw.facts
  obtain ⟨xx, yx, zx, vx⟩ := Bx.facts
  obtain ⟨xo, yo, zo, vo⟩ := Bo.facts
  go_wp2_with fail
  have cm := cmpW_any wAB wAB
  rw [num_cmp] at cm
  refine (cm _).mono ?_
  rintro e w20 ⟨rfl, hb⟩
  clear xa ya za va xb yb zb vb xw yw zw vw xx yx zx vx xo yo zo vo
  replace Ba := Ba.ext hb rfl
  replace Bb := Bb.ext hb rfl
  replace Bw := Bw.ext hb rfl
  replace Bx := Bx.ext hb rfl
  replace Bo := Bo.ext hb rfl
  replace S := S.ext hb rfl
  replace hw := hw.trans (hb.mono hw.size)
  clear hb
  obtain ⟨xa, ya, za, va⟩ := Ba.facts
  obtain ⟨xb, yb, zb, vb⟩ := Bb.facts
  obtain ⟨xw, yw, zw, vw⟩ := Bw.facts
  obtain ⟨xx, yx, zx, vx⟩ := Bx.facts
  obtain ⟨xo, yo, zo, vo⟩ := Bo.facts
  go_wp2
  go_ret
  exact ⟨rfl, hw⟩

end Go.Proofs.Ytnocdecimcpkfaa
