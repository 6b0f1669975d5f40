/- Put together: WalV, WalW, WalX, WalRow. -/
import Derived.Test.YtpeehjkpglkikaaRows
import Derived.Test.YtpeehjkpglkikaaPut29
import Derived.Test.YtpeehjkpglkikaaPut2
import Derived.WalkKit
import Derived.WalkSpells
import Derived.WalkLawsBesides
import Derived.Laws.Externs
import Derived.Deep.QuietTactic
import Derived.BigQuiet
import Derived.Lib.Hide
import Derived.Handy
import Derived.LoopN
import Derived.RegionTactic
import Derived.Test.YtpeehjkpglkikaaPut28
import Derived.Deep.Slices
import Derived.Carry
import Derived.Test.YtpeehjkpglkikaaPut20
import Derived.ProofKit
import Derived.Lib.SmallJoins
import Derived.Deep.Strs
import Derived.WideKeyArgs
namespace Go.Proofs.Ytpeehjkpglkikaa

/-- A height over the plane. -/
def ff (al be : Int) (p : Pt) : Int := al * p.x + be * p.y
theorem cross_eq (al be : Int) (a b c d : Pt) : det a b d * ff al be c - det a b c * ff al be d = det c d a * ff al be b - det c d b * ff al be a := by
  unfold det ff; grind
theorem cross_d (a b c d : Pt) : det a b d - det a b c = det c d a - det c d b := by unfold det; grind
theorem on_ff {p a b : Pt} (al be : Int) (hab : a ≠ b) (h : onS p a b = true) {m : Int} : (ff al be a < m → ff al be b < m → ff al be p < m) ∧ (m ≤ ff al be a → m ≤ ff al be b → m ≤ ff al be p) := by
  unfold onS at h
  simp only [Bool.and_eq_true, decide_eq_true_eq] at h
  obtain ⟨hp, ha, hb, h0, h1⟩ := h
  have hd : det a b p = 0 := by rw [ori_v ha hb hp] at h0; exact sgn_zero.1 h0
  obtain ⟨k0, k1⟩ := (on_k hab hd).1 h1
  obtain ⟨c1, c2⟩ := coll hd
  have hE := EE_pos hab
  have e : EE a b * (ff al be p - ff al be a) = kk a b p * (ff al be b - ff al be a) := by
    have : EE a b * (ff al be p - ff al be a) = al * (EE a b * (p.x - a.x)) + be * (EE a b * (p.y - a.y)) := by unfold ff; grind
    rw [this, c1, c2]; unfold ff; grind
  generalize ff al be p = fp at *
  generalize ff al be a = fa at *
  generalize ff al be b = fb at *
  generalize EE a b = E at *
  generalize kk a b p = k at *
  have e2 : E * (fp - m) = k * (fb - m) + (E - k) * (fa - m) := by grind
  constructor
  · intro ha' hb'
    have x1 : k * (fb - m) ≤ 0 := Int.mul_nonpos_of_nonneg_of_nonpos k0 (by omega)
    have x2 : (E - k) * (fa - m) ≤ 0 := Int.mul_nonpos_of_nonneg_of_nonpos (by omega) (by omega)
    have x3 : E * (fp - m) < 0 := by
      rcases Int.lt_or_eq_of_le k0 with hk | hk
      · have := Int.mul_neg_of_pos_of_neg hk (show fb - m < 0 by omega); omega
      · have : (E - k) * (fa - m) < 0 := Int.mul_neg_of_pos_of_neg (by omega) (by omega)
        omega
    rcases Int.lt_or_le (fp - m) 0 with h | h
    · omega
    · have := Int.mul_nonneg (Int.le_of_lt hE) h; omega
  · intro ha' hb'
    have x1 : 0 ≤ k * (fb - m) := Int.mul_nonneg k0 (by omega)
    have x2 : 0 ≤ (E - k) * (fa - m) := Int.mul_nonneg (by omega) (by omega)
    rcases Int.lt_or_le (fp - m) 0 with h | h
    · have := Int.mul_neg_of_pos_of_neg hE h; omega
    · omega
/-- Apart by a line: they do not meet. -/
theorem meet_apart {a b c d : Pt} (al be m : Int) (ha : ff al be a < m) (hb : ff al be b < m) (hc : m ≤ ff al be c) (hd : m ≤ ff al be d) : meetS a b c d = 0 := by
  have hbd := meet_bd a b c d
  by_cases hs : Seg2 a b c d
  case neg => exact meetS_none hs
  by_cases h2 : 2 ≤ meetS a b c d
  · have h := meet_two h2
    simp only [Bool.or_eq_true] at h
    rcases h with h | h | h | h
    · have := (on_ff al be hs.ncd h (m := m)).2 hc hd; omega
    · have := (on_ff al be hs.ncd h (m := m)).2 hc hd; omega
    · have := (on_ff al be hs.nab h (m := m)).1 ha hb; omega
    · have := (on_ff al be hs.nab h (m := m)).1 ha hb; omega
  · by_cases h1 : meetS a b c d = 1
    · obtain ⟨o1, o2⟩ := meet_one h1
      rw [ori_v hs.va hs.vb hs.vc, ori_v hs.va hs.vb hs.vd] at o1
      rw [ori_v hs.vc hs.vd hs.va, ori_v hs.vc hs.vd hs.vb] at o2
      have e := cross_eq al be a b c d
      have e' := cross_d a b c d
      generalize ff al be a = fa at *
      generalize ff al be b = fb at *
      generalize ff al be c = fc at *
      generalize ff al be d = fd at *
      generalize det a b c = s at *
      generalize det a b d = t at *
      generalize det c d a = u at *
      generalize det c d b = v at *
      have x : t * (fc - m) - s * (fd - m) = u * (fb - m) - v * (fa - m) := by grind
      rcases sgn_cases s with ⟨s1, s2⟩ | ⟨s1, s2⟩ | ⟨s1, s2⟩ <;> rcases sgn_cases t with ⟨t1, t2⟩ | ⟨t1, t2⟩ | ⟨t1, t2⟩ <;> rw [s1, t1] at o1 <;> try omega
      · rcases sgn_cases u with ⟨u1, u2⟩ | ⟨u1, u2⟩ | ⟨u1, u2⟩ <;> rcases sgn_cases v with ⟨v1, v2⟩ | ⟨v1, v2⟩ | ⟨v1, v2⟩ <;> rw [u1, v1] at o2 <;> try omega
        have y1 : 0 ≤ t * (fc - m) := Int.mul_nonneg (by omega) (by omega)
        have y2 : s * (fd - m) ≤ 0 := Int.mul_nonpos_of_nonpos_of_nonneg (by omega) (by omega)
        have y3 : u * (fb - m) < 0 := Int.mul_neg_of_pos_of_neg u2 (by omega)
        have y4 : 0 < v * (fa - m) := Int.mul_pos_of_neg_of_neg v2 (by omega)
        omega
      · rcases sgn_cases u with ⟨u1, u2⟩ | ⟨u1, u2⟩ | ⟨u1, u2⟩ <;> rcases sgn_cases v with ⟨v1, v2⟩ | ⟨v1, v2⟩ | ⟨v1, v2⟩ <;> rw [u1, v1] at o2 <;> try omega
        have y1 : t * (fc - m) ≤ 0 := Int.mul_nonpos_of_nonpos_of_nonneg (by omega) (by omega)
        have y2 : 0 ≤ s * (fd - m) := Int.mul_nonneg (by omega) (by omega)
        have y3 : 0 < u * (fb - m) := Int.mul_pos_of_neg_of_neg u2 (by omega)
        have y4 : v * (fa - m) < 0 := Int.mul_neg_of_pos_of_neg v2 (by omega)
        omega
    · omega
/-- A wall that is beside another one, or begins behind its end, does not meet it. -/
theorem bar_meet {X V : Wl} (hX : GoodW X) (hV : GoodW V) : (cmpP X.A V.B ≤ 0 ∧ bar1 X V = true) ↔ meetS X.A X.B V.A V.B ≠ 0 := by
  have kX : key X.A < key X.B := (cmp_lt hX.va hX.vb).1 hX.ab
  have kV : key V.A < key V.B := (cmp_lt hV.va hV.vb).1 hV.ab
  have fk : ∀ p : Pt, ff 16777216 1 p = key p := fun p => by unfold ff key; omega
  constructor
  · rintro ⟨_, h⟩
    unfold bar1 at h
    simp only [Bool.and_eq_true, decide_eq_true_eq] at h
    exact h.2
  · intro h
    have h1 : cmpP X.A V.B ≤ 0 := by
      rcases Int.lt_or_le 0 (cmpP X.A V.B) with h0 | h0
      · exfalso
        have hk : key V.B < key X.A := (cmp_lt hV.vb hX.va).1 (by rw [cmpP_neg]; omega)
        refine h ?_
        rw [← meet_sw3]
        exact meet_apart 16777216 1 (key X.A) (by rw [fk]; omega) (by rw [fk]; omega) (by rw [fk]; omega) (by rw [fk]; omega)
      · exact h0
    refine ⟨h1, ?_⟩
    unfold bar1
    simp only [Bool.and_eq_true, decide_eq_true_eq, Bool.not_eq_true']
    refine ⟨?_, h⟩
    have vX := vld_iff.1 hX.va
    have vX2 := vld_iff.1 hX.vb
    have vV := vld_iff.1 hV.va
    have vV2 := vld_iff.1 hV.vb
    have xX : X.A.x ≤ X.B.x := by unfold key at kX; omega
    have xV : V.A.x ≤ V.B.x := by unfold key at kV; omega
    cases hb : bsd X V.A V.B with
    | false => rfl
    | true =>
      exfalso
      refine h ?_
      unfold bsd mxI mnI at hb
      simp only [Bool.or_eq_true, decide_eq_true_eq] at hb
      rcases hb with hb | hb | hb | hb
      · exact meet_apart 1 0 V.A.x (by unfold ff; omega) (by unfold ff; omega) (by unfold ff; omega) (by unfold ff; omega)
      · rw [← meet_sw3]; exact meet_apart 1 0 X.A.x (by unfold ff; omega) (by unfold ff; omega) (by unfold ff; omega) (by unfold ff; omega)
      · refine meet_apart 0 1 (if V.B.y < V.A.y then V.B.y else V.A.y) ?_ ?_ ?_ ?_ <;> unfold ff <;> (repeat' split at *) <;> omega
      · rw [← meet_sw3]; refine meet_apart 0 1 (if X.B.y < X.A.y then X.B.y else X.A.y) ?_ ?_ ?_ ?_ <;> unfold ff <;> (repeat' split at *) <;> omega
/-- No two meet. -/
def Apart (L : List Wl) : Prop := L.Pairwise fun x y => meetS x.A x.B y.A y.B = 0
theorem clash_zero {L : List Wl} {X : Wl} (hX : GoodW X) (hg : ∀ x ∈ L, GoodW x) (h : clashW L X.A X.B = 0) : ∀ x ∈ L, meetS x.A x.B X.A X.B = 0 := by
  intro x hx
  obtain ⟨hA, hB⟩ := good_lo hX
  unfold clashW at h
  rw [hA, hB] at h
  split at h
  · split at h
    · split at h
      · cases h
      · rename_i hb
        by_cases hm : meetS x.A x.B X.A X.B = 0
        · exact hm
        · exfalso
          have hX1 : GoodW (⟨X.A, X.B, 1⟩ : Wl) := ⟨hX.va, hX.vb, hX.ab, .inl rfl⟩
          have := (bar_meet (hg x hx) hX1).2 hm
          refine hb (List.any_eq_true.2 ⟨x, ?_, this.2⟩)
          exact List.mem_filter.2 ⟨hx, by simpa using this.1⟩
    · cases h
  · cases h
theorem apart_add {L : List Wl} {X : Wl} (hg : ∀ x ∈ L, GoodW x) (h : Apart L) : Apart (addL L X) := by
  unfold addL
  split
  · rename_i hc
    have hX := mkOk_good hc.1
    have hz := clash_zero hX hg hc.2
    have hp : (L.take (posW L X.A X.B) ++ X :: L.drop (posW L X.A X.B)).Perm (X :: L) := by
      have := List.perm_middle (a := X) (l₁ := L.take (posW L X.A X.B)) (l₂ := L.drop (posW L X.A X.B))
      rwa [List.take_append_drop] at this
    unfold Apart
    refine (hp.pairwise_iff (fun {x y} e => by rw [← meet_sw3]; exact e)).2 ?_
    rw [List.pairwise_cons]
    exact ⟨fun y hy => by rw [← meet_sw3]; exact hz y hy, h⟩
  · exact h
theorem meet_self1 {X : Wl} (h : GoodW X) : meetS X.A X.B X.A X.B ≠ 0 := by
  have hab : X.A ≠ X.B := fun e => by have := h.ab; rw [e, cmpP_eq0.2 rfl] at this; omega
  rw [meet_sw2, meet_self h.va h.vb hab]; decide
end Go.Proofs.Ytpeehjkpglkikaa

namespace Go.Proofs.Ytpeehjkpglkikaa
open Go.RowKit Go.Sort
attribute [local go_sem] rOper rAt rUpon cell_set sg_i64 sg_u64 alloc_cell alloc_frozen
attribute [local go_sem 10000] pt_eql pt_neq wal_eql wal_neq
attribute [local irreducible] rWalk

set_option maxHeartbeats 400000 in
theorem alike_W (a1 a2 : Option Addr) (c1 c2 : Nat) (L1 L2 : List Wl) (w : World) (h1 : RowAt cW 5 w a1 L1) (h2 : RowAt cW 5 w a2 L2) (hl1 : L1.length ≤ 1000000) :
    Calls Try.prog 22 #[.slice a1 L1.length c1, .slice a2 L2.length c2] w fun e w' => e = .returned (.bool (decide (L1 = L2))) ∧ Below w.heap.size w w' := by
  by_cases hl : L1.length = L2.length
  case neg =>
    have hne : L1 ≠ L2 := fun e => hl (by rw [e])
    have hd : decide (L1 = L2) = false := by simpa using hne
    rw [hd]
    have hb2 : ((L1.length : Int) != L2.length) = true := by rw [bne_iff_ne]; omega
    clear h1 h2 hne hd
    generalize L1.length = n1 at *
    generalize L2.length = n2 at *
    go_enter Try.func22, Try.ntmps22
    go_wp2
    go_ret
    exact ⟨rfl, Below.refl _ _⟩
  case pos =>
    obtain ⟨n, hn1⟩ : ∃ n, L1.length = n := ⟨_, rfl⟩
    have hn2 : L2.length = n := by rw [← hl, hn1]
    have hb2 : ((n : Int) != n) = false := by simp
    rw [hn1, hn2]
    have hn : n ≤ 1000000 := hn1 ▸ hl1
    have H1 := Lib.hid hn1
    have H2 := Lib.hid hn2
    clear hn1 hn2 hl hl1
    go_enter Try.func22, Try.ntmps22
    go_wp2
    go_loopw [5] (fun i wr => ∃ k : Nat, k ≤ n ∧ i = .int .i64 k ∧ Hid (L1.take k = L2.take k) ∧ Below w.heap.size w wr) (fun i _ => n - (intOf i).toNat)
    case atStart => exact ⟨0, Nat.zero_le _, rfl, Lib.hid rfl, Below.refl _ _⟩
    case round =>
      obtain ⟨k, hk, rfl, hT, hw⟩ := hrel
      by_cases hlt : k < n
      · have r1 := h1.ext hw rfl
        have r2 := h2.ext hw rfl
        obtain ⟨ad1, A1, ea1, eA1, hA1⟩ := r1.five (j := k) (by rw [H1.out]; exact hlt)
        obtain ⟨_, q0, q1, q2, q3, q4⟩ := hA1.facts
        obtain ⟨ad2, A2, ea2, eA2, hA2⟩ := r2.five (j := k) (by rw [H2.out]; exact hlt)
        obtain ⟨_, p0, p1, p2, p3, p4⟩ := hA2.facts
        clear r1 r2 hA1 hA2
        have e1 : L1[k]'(by rw [H1.out]; exact hlt) = L1[k]'(by rw [H1.out]; exact hlt) := rfl
        by_cases he : L1[k]'(by rw [H1.out]; exact hlt) = L2[k]'(by rw [H2.out]; exact hlt)
        · have hd : weqI (L1[k]'(by rw [H1.out]; exact hlt)).A.x (L1[k]'(by rw [H1.out]; exact hlt)).A.y (L1[k]'(by rw [H1.out]; exact hlt)).B.x (L1[k]'(by rw [H1.out]; exact hlt)).B.y (L1[k]'(by rw [H1.out]; exact hlt)).K (L2[k]'(by rw [H2.out]; exact hlt)).A.x (L2[k]'(by rw [H2.out]; exact hlt)).A.y (L2[k]'(by rw [H2.out]; exact hlt)).B.x (L2[k]'(by rw [H2.out]; exact hlt)).B.y (L2[k]'(by rw [H2.out]; exact hlt)).K = true := weqI_iff.2 he
          have HE := Lib.hid he
          clear he e1
          go_wp2
          go_quiet (fail)
          go_wp2
          go_roundw
          case rel => 
            refine ⟨k + 1, by omega, by go_num, Lib.hid ?_, ?_⟩
            · rw [List.take_succ_eq_append_getElem (by rw [H1.out]; exact hlt), List.take_succ_eq_append_getElem (by rw [H2.out]; exact hlt), hT.out, HE.out]
            · exact hw.trans ⟨rfl, rfl, rfl, Nat.le_refl _, fun _ _ => rfl⟩
          case measure => simp [intOf]; omega
        · have hd : weqI (L1[k]'(by rw [H1.out]; exact hlt)).A.x (L1[k]'(by rw [H1.out]; exact hlt)).A.y (L1[k]'(by rw [H1.out]; exact hlt)).B.x (L1[k]'(by rw [H1.out]; exact hlt)).B.y (L1[k]'(by rw [H1.out]; exact hlt)).K (L2[k]'(by rw [H2.out]; exact hlt)).A.x (L2[k]'(by rw [H2.out]; exact hlt)).A.y (L2[k]'(by rw [H2.out]; exact hlt)).B.x (L2[k]'(by rw [H2.out]; exact hlt)).B.y (L2[k]'(by rw [H2.out]; exact hlt)).K = false := by rw [← Bool.not_eq_true, weqI_iff]; exact he
          have hne : decide (L1 = L2) = false := by rw [decide_eq_false_iff_not]; intro e; subst e; exact he rfl
          have HN := Lib.hid hne
          clear he e1 hne
          go_wp2
          go_quiet (fail)
          go_wp2
          go_ret
          exact ⟨ret_bool HN.out.symm, hw.trans ⟨rfl, rfl, rfl, Nat.le_refl _, fun _ _ => rfl⟩⟩
      · have he : L1 = L2 := by
          have := hT.out
          rwa [List.take_of_length_le (by rw [H1.out]; omega), List.take_of_length_le (by rw [H2.out]; omega)] at this
        have hd : decide (L1 = L2) = true := by simpa using he
        have HN := Lib.hid hd
        clear he hd
        go_wp2
        go_ret
        exact ⟨ret_bool HN.out.symm, hw⟩
theorem rcmpW_0 (S T : Wl) (h0 : ¬ cmpP S.A T.A = 0) (w : World) :
    Calls Try.prog 28 #[.agg #[.int .i64 S.A.x, .int .i64 S.A.y, .int .i64 S.B.x, .int .i64 S.B.y, .int .i64 S.K], .agg #[.int .i64 T.A.x, .int .i64 T.A.y, .int .i64 T.B.x, .int .i64 T.B.y, .int .i64 T.K]] w fun e w' => e = .returned (.int .i64 (cmpP S.A T.A)) ∧ Below w.heap.size w w' := by
  have c1 := rcmp_pt S.A T.A
  have hd : (cmpP S.A T.A == 0) = false := by simpa using h0
  clear h0
  generalize cmpP S.A T.A = n at *
  go_enter Try.func28, Try.ntmps28
  go_wp2_with fail
  refine at_call fun W1 hW => ?_
  have Bs : Box W1 (w.heap.size) [.int .i64 S.A.x, .int .i64 S.A.y, .int .i64 S.B.x, .int .i64 S.B.y, .int .i64 S.K] 35 := by rw [hW]; exact (Box.new rfl).old _
  have Bt : Box W1 (w.heap.size + 1) [.int .i64 T.A.x, .int .i64 T.A.y, .int .i64 T.B.x, .int .i64 T.B.y, .int .i64 T.K] 35 := by rw [hW]; exact Box.new (by simp)
  have hw : Below w.heap.size w W1 := by rw [hW]; go_grown
  clear hW
  refine (c1 _).mono ?_
  rintro e w2 ⟨rfl, hb⟩
  replace Bs := Bs.ext hb rfl
  replace Bt := Bt.ext hb rfl
  replace hw := hw.trans (hb.mono hw.size)
  clear hb
  obtain ⟨xs, ys, zs, vs⟩ := Bs.facts
  obtain ⟨xt, yt, zt, vt⟩ := Bt.facts
  go_wp2
  go_ret
  exact ⟨rfl, by have hl := hw.size; go_grown⟩

theorem rcmpW_1 (S T : Wl) (h0 : cmpP S.A T.A = 0) (h1 : ¬ cmpP S.B T.B = 0) (w : World) :
    Calls Try.prog 28 #[.agg #[.int .i64 S.A.x, .int .i64 S.A.y, .int .i64 S.B.x, .int .i64 S.B.y, .int .i64 S.K], .agg #[.int .i64 T.A.x, .int .i64 T.A.y, .int .i64 T.B.x, .int .i64 T.B.y, .int .i64 T.K]] w fun e w' => e = .returned (.int .i64 (cmpP S.B T.B)) ∧ Below w.heap.size w w' := by
  have c1 := rcmp_pt S.A T.A
  have c2 := rcmp_pt S.B T.B
  rw [h0] at c1
  have hd : (cmpP S.B T.B == 0) = false := by simpa using h1
  clear h0 h1
  generalize cmpP S.B T.B = n at *
  go_enter Try.func28, Try.ntmps28
  go_wp2_with fail
  refine at_call fun W1 hW => ?_
  have Bs : Box W1 (w.heap.size) [.int .i64 S.A.x, .int .i64 S.A.y, .int .i64 S.B.x, .int .i64 S.B.y, .int .i64 S.K] 35 := by rw [hW]; exact (Box.new rfl).old _
  have Bt : Box W1 (w.heap.size + 1) [.int .i64 T.A.x, .int .i64 T.A.y, .int .i64 T.B.x, .int .i64 T.B.y, .int .i64 T.K] 35 := by rw [hW]; exact Box.new (by simp)
  have hw : Below w.heap.size w W1 := by rw [hW]; go_grown
  clear hW
  refine (c1 _).mono ?_
  rintro e w2 ⟨rfl, hb⟩
  replace Bs := Bs.ext hb rfl
  replace Bt := Bt.ext hb rfl
  replace hw := hw.trans (hb.mono hw.size)
  clear hb
  obtain ⟨xs, ys, zs, vs⟩ := Bs.facts
  obtain ⟨xt, yt, zt, vt⟩ := Bt.facts
  go_wp2_with fail
  refine (c2 _).mono ?_
  rintro e w3 ⟨rfl, hb⟩
  clear xs ys zs vs xt yt zt vt
  replace Bs := Bs.ext hb rfl
  replace Bt := Bt.ext hb rfl
  replace hw := hw.trans (hb.mono hw.size)
  clear hb
  obtain ⟨xs, ys, zs, vs⟩ := Bs.facts
  obtain ⟨xt, yt, zt, vt⟩ := Bt.facts
  go_wp2
  go_ret
  exact ⟨rfl, by have hl := hw.size; go_grown⟩

theorem rcmpW_2 (S T : Wl) (h0 : cmpP S.A T.A = 0) (h1 : cmpP S.B T.B = 0) (hs : 0 ≤ S.K ∧ S.K ≤ 2) (ht : 0 ≤ T.K ∧ T.K ≤ 2) (w : World) :
    Calls Try.prog 28 #[.agg #[.int .i64 S.A.x, .int .i64 S.A.y, .int .i64 S.B.x, .int .i64 S.B.y, .int .i64 S.K], .agg #[.int .i64 T.A.x, .int .i64 T.A.y, .int .i64 T.B.x, .int .i64 T.B.y, .int .i64 T.K]] w fun e w' => e = .returned (.int .i64 (cmpN S.K T.K)) ∧ Below w.heap.size w w' := by
  have c1 := rcmp_pt S.A T.A
  have c2 := rcmp_pt S.B T.B
  rw [h0] at c1
  rw [h1] at c2
  have c3 : ∀ W : World, Calls Try.prog 54 #[.int .i64 (S.K - T.K)] W fun e w' => e = .returned (.int .i64 (sgn (S.K - T.K))) ∧ Below W.heap.size W w' := fun W => (rsign_any (S.K - T.K) W).mono fun _ _ ⟨h1, h2⟩ => ⟨h1, by rw [h2]; exact Below.refl _ _⟩
  have hw0 : wrap64 (S.K - T.K) = S.K - T.K := by rw [w64]; omega
  rw [show cmpN S.K T.K = sgn (S.K - T.K) by rfl]
  generalize sgn (S.K - T.K) = n at *
  clear h0 h1
  go_enter Try.func28, Try.ntmps28
  go_wp2_with fail
  refine at_call fun W1 hW => ?_
  have Bs : Box W1 (w.heap.size) [.int .i64 S.A.x, .int .i64 S.A.y, .int .i64 S.B.x, .int .i64 S.B.y, .int .i64 S.K] 35 := by rw [hW]; exact (Box.new rfl).old _
  have Bt : Box W1 (w.heap.size + 1) [.int .i64 T.A.x, .int .i64 T.A.y, .int .i64 T.B.x, .int .i64 T.B.y, .int .i64 T.K] 35 := by rw [hW]; exact Box.new (by simp)
  have hw : Below w.heap.size w W1 := by rw [hW]; go_grown
  clear hW
  refine (c1 _).mono ?_
  rintro e w2 ⟨rfl, hb⟩
  replace Bs := Bs.ext hb rfl
  replace Bt := Bt.ext hb rfl
  replace hw := hw.trans (hb.mono hw.size)
  clear hb
  obtain ⟨xs, ys, zs, vs⟩ := Bs.facts
  obtain ⟨xt, yt, zt, vt⟩ := Bt.facts
  go_wp2_with fail
  refine (c2 _).mono ?_
  rintro e w3 ⟨rfl, hb⟩
  clear xs ys zs vs xt yt zt vt
  replace Bs := Bs.ext hb rfl
  replace Bt := Bt.ext hb rfl
  replace hw := hw.trans (hb.mono hw.size)
  clear hb
  obtain ⟨xs, ys, zs, vs⟩ := Bs.facts
  obtain ⟨xt, yt, zt, vt⟩ := Bt.facts
  go_wp2_with fail
  refine (c3 _).mono ?_
  rintro e w4 ⟨rfl, hb⟩
  clear xs ys zs vs xt yt zt vt
  replace Bs := Bs.ext hb rfl
  replace Bt := Bt.ext hb rfl
  replace hw := hw.trans (hb.mono hw.size)
  clear hb
  obtain ⟨xs, ys, zs, vs⟩ := Bs.facts
  obtain ⟨xt, yt, zt, vt⟩ := Bt.facts
  go_wp2
  go_ret
  exact ⟨rfl, by have hl := hw.size; go_grown⟩

theorem rcmpW_any (S T : Wl) (hs : 0 ≤ S.K ∧ S.K ≤ 2) (ht : 0 ≤ T.K ∧ T.K ≤ 2) (w : World) :
    Calls Try.prog 28 #[.agg #[.int .i64 S.A.x, .int .i64 S.A.y, .int .i64 S.B.x, .int .i64 S.B.y, .int .i64 S.K], .agg #[.int .i64 T.A.x, .int .i64 T.A.y, .int .i64 T.B.x, .int .i64 T.B.y, .int .i64 T.K]] w fun e w' => e = .returned (.int .i64 (cmpW S T)) ∧ Below w.heap.size w w' := by
  by_cases h0 : cmpP S.A T.A = 0
  · by_cases h1 : cmpP S.B T.B = 0
    · rw [show cmpW S T = cmpN S.K T.K by unfold cmpW; simp [h0, h1]]; exact rcmpW_2 S T h0 h1 hs ht w
    · rw [show cmpW S T = cmpP S.B T.B by unfold cmpW; simp [h0, h1]]; exact rcmpW_1 S T h0 h1 w
  · rw [show cmpW S T = cmpP S.A T.A by unfold cmpW; simp [h0]]; exact rcmpW_0 S T h0 w
end Go.Proofs.Ytpeehjkpglkikaa

namespace Go.Proofs.Ytpeehjkpglkikaa
open Go.RowKit Go.Sort Go.Lib Go.ChangeShapes Go.WideShapes Go.ChangeAt

theorem apart_iff {L : List Wl} (h : Apart L) {i j : Nat} (hi : i < L.length) (hj : j < L.length) (hij : i ≠ j) : meetS L[i].A L[i].B L[j].A L[j].B = 0 := by
  unfold Apart at h
  rw [List.pairwise_iff_getElem] at h
  rcases Nat.lt_or_gt_of_ne hij with h1 | h1
  · exact h i j hi hj h1
  · rw [← meet_sw3]; exact h j i hj hi h1
/-- Of a set, the wall between two of its own ends is itself. -/
theorem kind_own {L : List Wl} (h : Apart L) (hg : ∀ x ∈ L, GoodW x) {x : Wl} (hx : x ∈ L) : kindW L x.A x.B = x.K := by
  unfold kindW
  cases hf : L.find? (isW x.A x.B) with
  | none =>
    have := List.find?_eq_none.1 hf x hx
    exact absurd (isW_iff.2 ⟨rfl, rfl⟩) this
  | some y =>
    have hy := List.mem_of_find?_eq_some hf
    have e := isW_iff.1 (List.find?_some hf)
    obtain ⟨i, hi, rfl⟩ := List.mem_iff_getElem.1 hx
    obtain ⟨j, hj, rfl⟩ := List.mem_iff_getElem.1 hy
    by_cases hij : i = j
    · subst hij; rfl
    · exfalso
      have := apart_iff h hj hi (Ne.symm hij)
      rw [e.1, e.2] at this
      exact meet_self1 (hg _ (List.getElem_mem hi)) this
theorem add_zero {L : List Wl} {X : Wl} (h : addE L X = 0) : unm X = false ∧ clashW L X.A X.B = 0 := by
  unfold addE at h
  cases hu : unm X with
  | true => rw [hu, if_pos rfl] at h; cases h
  | false => rw [hu, if_neg (by simp)] at h; exact ⟨rfl, h⟩
theorem addL_mem {L : List Wl} {X x : Wl} (h : addE L X = 0) : x ∈ addL L X ↔ x = X ∨ x ∈ L := by
  unfold addL
  rw [if_pos (add_zero h)]
  exact ins_mem
theorem addL_len {L : List Wl} {X : Wl} (h : addE L X = 0) : (addL L X).length = L.length + 1 := by
  unfold addL
  rw [if_pos (add_zero h)]
  simp only [List.length_append, List.length_cons, List.length_take, List.length_drop]; omega
theorem addL_no {L : List Wl} {X : Wl} (h : ¬ addE L X = 0) : addL L X = L := by
  unfold addL
  rw [if_neg]
  rintro ⟨h1, h2⟩
  exact h (by unfold addE; rw [h1, if_neg (by simp)]; exact h2)
/-- What has just been added is there. -/
theorem add_have {L : List Wl} {X : Wl} (hg : ∀ x ∈ L, GoodW x) (h : Apart L) (he : addE L X = 0) : clashW (addL L X) X.A X.B = 5 := by
  obtain ⟨hu, hz⟩ := add_zero he
  have hX := mkOk_good hu
  obtain ⟨hA, hB⟩ := good_lo hX
  have hm := kind_own (apart_add (X := X) hg h) (fun x hx => by
    rcases (addL_mem he).1 hx with rfl | hx
    · exact hX
    · exact hg x hx) ((addL_mem he).2 (.inl rfl))
  have hk : mkOk X.A X.B 1 = true := by
    have hab : X.A ≠ X.B := fun e => by have := hX.ab; rw [e, cmpP_eq0.2 rfl] at this; omega
    unfold mkOk mkK; simp [hX.va, hX.vb, hab]
  unfold clashW
  rw [hA, hB, if_pos hk, hm, if_neg (by have := hX.k; omega)]
/-- A set's walls make a set. -/
theorem set_new {L : List Wl} (hr : Ris L) (h : Apart L) (hg : ∀ x ∈ L, GoodW x) : srt cmpW L = L ∧ L.any unm = false ∧ (¬ ∃ (i : Nat) (h : i + 1 < L.length), adjB L[i] L[i + 1] = true) ∧ ¬ ∃ (k : Nat) (h : k < L.length), hitB (L.take k) L[k] = true := by
  refine ⟨(wholeW.srt_eq (List.Perm.refl L) (hr.imp fun h => by omega)).symm, ?_, ?_, ?_⟩
  · rw [List.any_eq_false]
    intro x hx
    rw [good_unm (hg x hx)]; simp
  · rintro ⟨i, hi, e⟩
    unfold adjB at e
    simp only [Bool.and_eq_true, decide_eq_true_eq] at e
    have := apart_iff h (show i < L.length by omega) hi (by omega)
    rw [e.1, e.2] at this
    exact meet_self1 (hg _ (List.getElem_mem hi)) this
  · rintro ⟨k, hk, e⟩
    unfold hitB at e
    rw [List.any_eq_true] at e
    obtain ⟨y, hy, hb⟩ := e
    have hy2 : y ∈ L.take k := by
      have := List.mem_filter.1 hy
      have sub : ∀ (M o : List Wl) (z : Wl), z ∈ M.foldl (fun o x => o.filter (fun y => !gone x y) ++ [x]) o → z ∈ o ∨ z ∈ M := by
        intro M
        induction M with
        | nil => intro o z hz; exact .inl hz
        | cons x M ih =>
          intro o z hz
          rcases ih _ z hz with h1 | h1
          · rcases List.mem_append.1 h1 with h1 | h1
            · exact .inl (List.mem_filter.1 h1).1
            · exact .inr (List.mem_cons.2 (.inl (by simpa using h1)))
          · exact .inr (List.mem_cons.2 (.inr h1))
      rcases sub (L.take k) [] y this.1 with h1 | h1
      · cases h1
      · exact h1
    obtain ⟨j, hj, rfl⟩ := List.mem_take_iff_getElem.1 hy2
    unfold bar1 at hb
    simp only [Bool.and_eq_true, decide_eq_true_eq] at hb
    exact hb.2 (apart_iff h (by omega) hk (by omega))
/-- A new set of none. -/
theorem new_none (w : World) : Calls Try.prog 8 #[.slice none 0 0] w fun e w' => ∃ sb v, e = .returned (.tuple #[.pointer (some ⟨sb, 0, none⟩), .int .i64 0]) ∧ SetAt w' sb v [] ∧ w.heap.size ≤ sb ∧ (∀ g, v.ownBlock = some g → w.heap.size ≤ g) ∧ Below w.heap.size w w' := by
  have hs : srt cmpW ([] : List Wl) = [] := by simp [srt]
  refine (new_ok none 0 [] (by simp) (fun _ h => by cases h) (fun _ => rfl) [] hs false rfl (iff_no fun ⟨i, h, _⟩ => by simp at h) false rfl (iff_no fun ⟨k, h, _⟩ => by simp at h) rfl w RowAt.nil).mono ?_
  rintro e w' ⟨sb, v, rfl, h1, h2, h3, h4, h5⟩
  exact ⟨sb, v, rfl, ⟨h1, h2.base (Nat.zero_le _), h4, by simp, by simp [Ris, Rising], by simp⟩, h3, fun g e => (h2.lt g e).1, h5⟩
/-- A set of a set's walls. -/
theorem new_set {a : Option Addr} {c : Nat} {L : List Wl} (hL : L.length < 1000000) (hf : Flat a) (hz : a = none → L = []) (hr : Ris L) (h : Apart L) (hg : ∀ x ∈ L, GoodW x) (w : World) (hrow : RowAt cW 5 w a L) :
    Calls Try.prog 8 #[.slice a L.length c] w fun e w' => ∃ sb v, e = .returned (.tuple #[.pointer (some ⟨sb, 0, none⟩), .int .i64 0]) ∧ SetAt w' sb v L ∧ w.heap.size ≤ sb ∧ (∀ g, v.ownBlock = some g → w.heap.size ≤ g) ∧ Below w.heap.size w w' := by
  obtain ⟨h1, h2, h3, h4⟩ := set_new hr h hg
  refine (new_ok a c L hL hf hz L h1 false rfl (iff_no h3) false rfl (iff_no h4) h2 w hrow).mono ?_
  rintro e w' ⟨sb, v, rfl, h1, h2, h3, h4, h5⟩
  exact ⟨sb, v, rfl, ⟨h1, h2.base (Nat.zero_le _), h4, by omega, hr, hg⟩, h3, fun g e => (h2.lt g e).1, h5⟩
end Go.Proofs.Ytpeehjkpglkikaa

namespace Go.Proofs.Ytpeehjkpglkikaa
open Go.RowKit Go.Sort Go.ChangeShapes Go.WideShapes Go.ChangeAt
section
variable {H : Type} {enc : TypeId × Value → H} {w : World} {base : Nat → Bool} {spare : Bool}
theorem trod_ptW {b0 : Nat} {fuel : Nat} {u v : Value} {y : DataW H × List MemPlace} (h : DataW.trod enc Try.prog w b0 base spare fuel 33 [u, v] = some y) :
    ∃ a b, u = .int .i64 a ∧ v = .int .i64 b := by
  obtain ⟨y0, y1, n, rfl, hl, h0, h1⟩ := trod_struct2 Try.underlying33 h
  rw [show Try.prog.cellsOf 3 = 1 by kernel_rfl] at h0 h1
  simp only [List.drop_zero, List.take_succ_cons, List.take_zero, List.drop_succ_cons] at h0 h1
  obtain ⟨a, ha, rfl, wa⟩ := DataW.trod_int Try.underlying3 h0
  obtain ⟨b, hb, rfl, wb⟩ := DataW.trod_int Try.underlying3 h1
  simp at ha hb
  exact ⟨a, b, ha, hb⟩
theorem list5 {l : List Value} (h : l.length = 5) : ∃ a b c d e, l = [a, b, c, d, e] := by
  match l, h with
  | [a, b, c, d, e], _ => exact ⟨a, b, c, d, e, rfl⟩
set_option maxRecDepth 100000 in
theorem trod_wal {b0 : Nat} {fuel : Nat} {cs : List Value} {y : DataW H × List MemPlace} (hl : cs.length = 5) (hf : DataW.trod enc Try.prog w b0 base spare fuel 35 cs = some y) :
    ∃ T : Wl, cs = cW T := by
  obtain ⟨c0, c1, c2, c3, c4, hc⟩ := list5 hl
  subst hc
  obtain ⟨y0, y1, y2, n, hx, _, h0, h1, h2⟩ := Deep.trod_struct3 Try.underlying35 hf
  have e2 : Try.prog.cellsOf 33 = 2 := by kernel_rfl
  have e1 : Try.prog.cellsOf 3 = 1 := by kernel_rfl
  simp only [e1, e2] at h0 h1 h2
  simp only [List.drop_zero, List.take_succ_cons, List.take_zero, List.drop_succ_cons] at h0 h1 h2
  obtain ⟨a0, a1, rfl, rfl⟩ := trod_ptW h0
  obtain ⟨a2, a3, rfl, rfl⟩ := trod_ptW h1
  obtain ⟨a4, h4, rfl, _⟩ := DataW.trod_int Try.underlying3 h2
  simp at h4
  subst h4
  exact ⟨⟨⟨a0, a1⟩, ⟨a2, a3⟩, a4⟩, rfl⟩
set_option maxRecDepth 100000 in
theorem open_rowW {r : Reach} {b0 b1 : Nat} {v : Value} {d : DataW H} {p : List MemPlace} (hv : Value.okWide Try.prog w r b1 22 v) (h : DataW.Trod enc Try.prog w b0 base spare 22 v d p) :
    ∃ (a : Option Addr) (n cap : Nat) (L : List Wl), v = .slice a n cap ∧ L.length = n ∧ RowAt cW 5 w a L := by
  obtain ⟨a0, n0, k0, rfl⟩ := okWide_slice Try.underlying22 hv
  obtain ⟨fuel, hf⟩ := h
  simp only [Value.cells] at hf
  rcases Deep.open_slice Try.underlying22 hf with ⟨hcs, _⟩ | ⟨a, len, cap, m, n, D, Pl, hcs, hb, hl, hm, hmm, hx, hi⟩
  · simp only [List.cons.injEq, Value.slice.injEq, and_true] at hcs
    obtain ⟨rfl, rfl, rfl⟩ := hcs
    exact ⟨none, 0, 0, [], rfl, rfl, fun j x hx => (by simp at hx)⟩
  · simp only [List.cons.injEq, Value.slice.injEq, and_true] at hcs
    obtain ⟨rfl, rfl, rfl⟩ := hcs
    have hlm : n0 ≤ m := by rw [hmm]; split <;> omega
    have each : ∀ i, i < n0 → ∃ T : Wl, ∀ j u, (cW T)[j]? = some u → w.cell? ((a.add (i * 5)).add j) = some u := fun i hin => by
      obtain ⟨cs', h1, h2⟩ := hi i (by omega)
      rw [show Try.prog.cellsOf 35 = 5 by kernel_rfl] at h1
      obtain ⟨_, hlen, hcell⟩ := World.cells?_some h1
      obtain ⟨T, rfl⟩ := trod_wal hlen h2
      refine ⟨T, fun j u hu => ?_⟩
      rw [hcell j (by have := (List.getElem?_eq_some_iff.1 hu).1; rwa [hlen] at this)]; exact hu
    obtain ⟨f, hf2⟩ := Deep.choose_lt each
    refine ⟨some a, n0, k0, (List.range n0).map f, rfl, by simp, fun j x hx => ?_⟩
    rw [List.getElem?_map] at hx
    obtain ⟨i, hi1, rfl⟩ := Option.map_eq_some_iff.1 hx
    have hj : j < n0 ∧ i = j := by
      obtain ⟨h1, h2⟩ := List.getElem?_eq_some_iff.1 hi1
      simp at h1 h2; exact ⟨h1, h2.symm⟩
    obtain ⟨hj, rfl⟩ := hj
    have hc := hf2 i hj
    refine ⟨a, rfl, ?_, hc⟩
    have h4 := hc 0 _ rfl
    unfold World.cell? at h4
    rw [addr_block, addr_block] at h4
    rcases Nat.lt_or_ge a.block w.heap.size with h' | h'
    · exact h'
    · simp [Array.getElem?_eq_none h'] at h4
end
end Go.Proofs.Ytpeehjkpglkikaa
