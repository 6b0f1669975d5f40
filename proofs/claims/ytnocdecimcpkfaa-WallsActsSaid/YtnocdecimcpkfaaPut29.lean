/- Put together: DocM, FlowC, ActRow. -/
import Derived.Test.YtnocdecimcpkfaaPut24
import Derived.Test.YtnocdecimcpkfaaPut28
import Derived.Lib.Hide
import Derived.Test.YtnocdecimcpkfaaPut26
import Derived.Test.YtnocdecimcpkfaaRows
import Derived.Test.YtnocdecimcpkfaaPut17
import Derived.Test.YtnocdecimcpkfaaPut16
namespace Go.Proofs.Ytnocdecimcpkfaa
open Go.RowKit Go.Sort Go.Lib

theorem find_congr {p q : Wl → Bool} : ∀ {L : List Wl}, (∀ x ∈ L, p x = q x) → L.find? p = L.find? q
  | [], _ => rfl
  | x :: L, h => by
    rw [List.find?_cons, List.find?_cons, h x List.mem_cons_self, find_congr fun y hy => h y (List.mem_cons_of_mem _ hy)]
theorem isE_lo {p q : Pt} {x : Wl} (hx : GoodW x) : isE p q x = isW (lo2 p q) (hi2 p q) x := by
  rw [Bool.eq_iff_iff]
  simp only [isE, isW, Bool.or_eq_true, Bool.and_eq_true, decide_eq_true_eq]
  have hab := hx.ab
  have hn := cmpP_neg p q
  unfold lo2 hi2
  by_cases h : cmpP q p < 0
  · rw [if_pos h, if_pos h]
    constructor
    · rintro (⟨e1, e2⟩ | h2)
      · rw [e1, e2] at hab; omega
      · exact h2
    · exact fun h2 => .inr h2
  · rw [if_neg h, if_neg h]
    constructor
    · rintro (h1 | ⟨e1, e2⟩)
      · exact h1
      · rw [e1, e2] at hab; exact absurd hab h
    · exact fun h2 => .inl h2
theorem isE_comm (p q : Pt) (x : Wl) : isE p q x = isE q p x := by unfold isE; rw [Bool.or_comm]
theorem kindD_eq {L : List Wl} (hg : ∀ x ∈ L, GoodW x) (p q : Pt) : kindD L p q = kindW L (lo2 p q) (hi2 p q) := by
  unfold kindD kindW; rw [find_congr (q := isW (lo2 p q) (hi2 p q)) fun x hx => isE_lo (hg x hx)]; cases L.find? (isW (lo2 p q) (hi2 p q)) <;> rfl
theorem kindD_comm (L : List Wl) (p q : Pt) : kindD L p q = kindD L q p := by
  unfold kindD; rw [show isE p q = isE q p from funext fun x => isE_comm p q x]
theorem good_mk2 {a b : Pt} {k : Int} (h : mkOk a b k = true) : GoodW ⟨lo2 a b, hi2 a b, k⟩ := by
  unfold mkOk mkK at h
  simp only [Bool.and_eq_true, Bool.or_eq_true, decide_eq_true_eq, Bool.not_eq_true', decide_eq_false_iff_not] at h
  obtain ⟨hk, hab, ha, hb⟩ := h
  have hn := cmpP_neg a b
  have h0 : cmpP a b ≠ 0 := fun e => hab (cmpP_eq0.1 e)
  unfold lo2 hi2
  by_cases h : cmpP b a < 0
  · rw [if_pos h, if_pos h]; exact ⟨hb, ha, h, hk⟩
  · rw [if_neg h, if_neg h]; exact ⟨ha, hb, by show cmpP a b < 0; omega, hk⟩
theorem meet_lo (a b c d : Pt) : meetS c d (lo2 a b) (hi2 a b) = meetS a b c d := by
  rw [← meet_sw3]
  unfold lo2 hi2
  by_cases h : cmpP b a < 0
  · rw [if_pos h, if_pos h, meet_sw1]
  · rw [if_neg h, if_neg h]
theorem hit_eq {L : List Wl} (hg : ∀ x ∈ L, GoodW x) {a b : Pt} (h : mkOk a b 1 = true) : (bgL L (hi2 a b)).any (fun x => bar1 x ⟨lo2 a b, hi2 a b, 1⟩) = L.any (hitD a b) := by
  have hV := good_mk2 h
  rw [Bool.eq_iff_iff, List.any_eq_true, List.any_eq_true]
  unfold bgL hitD
  constructor
  · rintro ⟨x, hx, hb⟩
    obtain ⟨h1, h2⟩ := List.mem_filter.1 hx
    have := (bar_meet (hg x h1) hV).1 ⟨by simpa using h2, hb⟩
    exact ⟨x, h1, by rw [meet_lo, meet_eq] at this; simpa using this⟩
  · rintro ⟨x, h1, hm⟩
    have hm' : meetS x.A x.B (lo2 a b) (hi2 a b) ≠ 0 := by rw [meet_lo, meet_eq]; simpa using hm
    obtain ⟨h2, h3⟩ := (bar_meet (hg x h1) hV).2 hm'
    exact ⟨x, List.mem_filter.2 ⟨h1, by simpa using h2⟩, h3⟩
theorem clashD_eq {L : List Wl} (hg : ∀ x ∈ L, GoodW x) (a b : Pt) : clashD L a b = clashW L a b := by
  unfold clashD clashW
  by_cases h : mkOk a b 1 = true
  · rw [if_pos h, if_pos h, kindD_eq hg, hit_eq hg h]
  · rw [if_neg h, if_neg h]
theorem addDE_eq {L : List Wl} (hg : ∀ x ∈ L, GoodW x) (X : Wl) : addDE L X = addE L X := by
  unfold addDE addE; rw [clashD_eq hg]
theorem no_same {L : List Wl} (hg : ∀ x ∈ L, GoodW x) {X : Wl} (hX : GoodW X) (hc : clashW L X.A X.B = 0) : ∀ x ∈ L, ¬ (x.A = X.A ∧ x.B = X.B) := fun x hx ⟨e1, e2⟩ => by
  have h1 := clash_zero hX hg hc x hx
  rw [e1, e2] at h1
  exact meet_self1 hX h1
/-- What Add makes. -/
theorem add_at {L : List Wl} (hr : Ris L) (hg : ∀ x ∈ L, GoodW x) {X : Wl} {r : Int} {L' : List Wl} (h : AddAt L X r L') : r = addE L X ∧ L' = addL L X ∧ Ris L' := by
  obtain ⟨h1, h2⟩ := h
  rw [addDE_eq hg] at h1
  refine ⟨h1, ?_⟩
  rcases h2 with ⟨h0, rfl⟩ | ⟨h0, k, hp, rfl⟩
  · exact ⟨(addL_no (by rw [← h1]; exact h0)).symm, hr⟩
  · rw [h0] at h1
    obtain ⟨hu, hc⟩ := add_zero h1.symm
    have hX := mkOk_good hu
    have hns := no_same hg hX hc
    obtain ⟨p1, p2⟩ := pos_spec hr X.A X.B
    have hXk : 0 < X.K := by have := hX.k; omega
    have key : ∀ x ∈ L, (cmpW x X < 0 ↔ cmpW x ⟨X.A, X.B, 0⟩ < 0) ∧ cmpW x X ≠ 0 := fun x hx => by
      have hn := hns x hx
      refine ⟨?_, fun e => hn (by rw [cmpW_eq0.1 e]; exact ⟨rfl, rfl⟩)⟩
      rw [cmpW_lt, cmpW_lt]
      constructor
      · rintro (h | ⟨e, h | ⟨e2, _⟩⟩)
        · exact .inl h
        · exact .inr ⟨e, .inl h⟩
        · exact absurd ⟨e, e2⟩ hn
      · rintro (h | ⟨e, h | ⟨e2, _⟩⟩)
        · exact .inl h
        · exact .inr ⟨e, .inl h⟩
        · exact absurd ⟨e, e2⟩ hn
    obtain ⟨q0, q1, q2⟩ := hp
    have hk : k = posW L X.A X.B := by
      rcases Nat.lt_trichotomy k (posW L X.A X.B) with hlt | e | hlt
      · exfalso
        have hkl : k < L.length := by omega
        have h3 := q1 k hkl (Nat.le_refl _)
        have h4 := (key _ (List.getElem_mem hkl)).1.2 ((p1 k hkl).2 hlt)
        omega
      · exact e
      · exfalso
        have hkl : k - 1 < L.length := by omega
        have h3 := q2 hkl (by omega)
        have h4 : ¬ cmpW L[k - 1] ⟨X.A, X.B, 0⟩ < 0 := fun h => by have := (p1 (k - 1) hkl).1 h; omega
        have h5 := key _ (List.getElem_mem hkl)
        have h6 := h5.2
        have h7 : ¬ cmpW L[k - 1] X < 0 := fun h => h4 (h5.1.1 h)
        omega
    have hris := (rising_insert wholeW hr q0 (fun i hi => by
      have hil : i < L.length := by omega
      exact (key _ (List.getElem_mem hil)).1.2 ((p1 i hil).2 (by omega))) (fun i h1 h2 => q1 i h2 h1)).1
    exact ⟨by unfold addL; rw [if_pos ⟨hu, hc⟩, hk], hris⟩
theorem rl_lo2 (a b : Pt) : rl a b = lo2 a b ∧ rg a b = hi2 a b := by
  by_cases h : a = b
  · subst h; unfold rl rg lo2 hi2; rw [cmpP_eq0.2 rfl]; exact ⟨rfl, rfl⟩
  · exact rl_lo h
/-- What Remove makes. -/
theorem rem_at {L : List Wl} (hr : Ris L) (ha : Apart L) (hg : ∀ x ∈ L, GoodW x) {a b : Pt} {r : Int} {L' : List Wl} (h : RemAt L (rl a b) (rg a b) r L') : r = remE L (lo2 a b) (hi2 a b) ∧ L' = remL L (lo2 a b) (hi2 a b) := by
  rw [(rl_lo2 a b).1, (rl_lo2 a b).2] at h
  have hK : ∀ x ∈ L, 0 < x.K := fun x hx => by have := (hg x hx).k; omega
  generalize lo2 a b = p at *
  generalize hi2 a b = q at *
  unfold remE remL
  cases hf : fnd L (posW L p q) p q with
  | true =>
    obtain ⟨hm, _, e1, e2⟩ := fnd_true hr hf hK
    rw [if_pos rfl, if_pos rfl]
    rcases h with ⟨_, _, h3⟩ | ⟨h1, k, hk, h2, h3⟩
    · have := h3 _ (List.getElem_mem hm)
      rw [isW_iff.2 ⟨e1, e2⟩] at this; cases this
    · refine ⟨h1, ?_⟩
      have hkm : k = posW L p q := by
        by_cases e : k = posW L p q
        · exact e
        · exfalso
          obtain ⟨e3, e4⟩ := isW_iff.1 h2
          have h0 := apart_iff ha hk hm e
          rw [e1, e2, ← e3, ← e4] at h0
          exact meet_self1 (hg _ (List.getElem_mem hk)) h0
      rw [h3, hkm]
  | false =>
    have hn := fnd_false hr hf hK
    rw [if_neg (by simp), if_neg (by simp)]
    rcases h with ⟨h1, h2, _⟩ | ⟨_, k, hk, h2, _⟩
    · exact ⟨h1, h2⟩
    · exfalso
      have := List.find?_eq_none.1 hn _ (List.getElem_mem hk)
      exact this h2
theorem ends_eq {L : List Wl} (hg : ∀ x ∈ L, GoodW x) (p : Pt) : L.filter (endW p) = (bgL L p).filter (endW p) := by
  unfold bgL
  rw [List.filter_filter]
  refine (List.filter_congr fun x hx => ?_)
  cases h : endW p x with
  | false => simp
  | true =>
    unfold endW at h
    simp only [Bool.or_eq_true, decide_eq_true_eq] at h
    have : cmpP x.A p ≤ 0 := by
      rcases h with h | h
      · rw [h, cmpP_eq0.2 rfl]; omega
      · rw [← h]; have := (hg x hx).ab; omega
    simp [this]
theorem onR_pos {p : Pt} {x : Wl} (hx : GoodW x) (h : onR p x.A x.B = true) (hne : p ≠ x.A) : cmpP x.A p ≤ 0 ∧ bsd x p p = false := by
  unfold onR at h
  simp only [Bool.and_eq_true, decide_eq_true_eq] at h
  obtain ⟨_, _, _, hd, h1, h2⟩ := h
  unfold btw at h1 h2
  simp only [decide_eq_true_eq] at h1 h2
  have hab := cmpP_lt.1 hx.ab
  have hx1 : x.A.x ≤ p.x ∧ p.x ≤ x.B.x := by omega
  refine ⟨?_, ?_⟩
  · by_cases hlt : x.A.x < p.x
    · have : cmpP x.A p < 0 := cmpP_lt.2 (.inl hlt)
      omega
    · have e : p.x = x.A.x := by omega
      rcases hab with hb | ⟨e2, hb⟩
      · exfalso
        unfold det at hd
        rw [e] at hd
        have h3 : (x.B.x - x.A.x) * (p.y - x.A.y) = 0 := by grind
        rcases Int.mul_eq_zero.1 h3 with h4 | h4
        · omega
        · exact hne (Pt.eq_iff.2 ⟨e, by omega⟩)
      · have h3 : x.A.y ≤ p.y := by omega
        rcases Int.lt_or_eq_of_le h3 with h4 | h4
        · have : cmpP x.A p < 0 := cmpP_lt.2 (.inr ⟨by omega, h4⟩)
          omega
        · exact absurd (Pt.eq_iff.2 ⟨e, by omega⟩) hne
  · unfold bsd mxI mnI
    simp only [Bool.or_eq_false_iff, decide_eq_false_iff_not]
    refine ⟨by omega, by omega, ?_, ?_⟩ <;> (repeat' split) <;> omega
theorem on_find {L : List Wl} (hr : Ris L) (hg : ∀ x ∈ L, GoodW x) (p : Pt) : L.find? (onD p) = (bgL L p).find? (onW p) := by
  have e1 : (bgL L p).find? (onW p) = (bgL L p).find? (onD p) := find_congr fun x hx => by
    have hxL := (List.mem_filter.1 hx).1
    unfold onW onD
    rw [on_eq]
    by_cases h1 : x.A = p
    · simp [h1]
    · by_cases h2 : x.B = p
      · simp [h2]
      · have h3 : ¬ p = x.A := fun e => h1 e.symm
        have h4 : ¬ p = x.B := fun e => h2 e.symm
        cases ho : onR p x.A x.B with
        | false => simp
        | true => simp [h1, h2, h3, h4, (onR_pos (hg x hxL) ho h3).2]
  rw [e1]
  obtain ⟨_, _, h3⟩ := bg_spec hr p
  have hsplit : L = bgL L p ++ L.drop (bgL L p).length := by
    conv => lhs; rw [← List.take_append_drop (bgL L p).length L, h3]
  have hnone : (L.drop (bgL L p).length).find? (onD p) = none := by
    rw [List.find?_eq_none]
    intro x hx ho
    have hxL := List.mem_of_mem_drop hx
    unfold onD at ho
    simp only [Bool.and_eq_true, Bool.not_eq_true', decide_eq_false_iff_not] at ho
    have hc := (onR_pos (hg x hxL) ho.2.2 ho.1).1
    obtain ⟨j, hj, rfl⟩ := List.mem_iff_getElem.1 hx
    rw [List.getElem_drop] at hc
    rw [List.length_drop] at hj
    have h4 := ((bg_spec hr p).1 ((bgL L p).length + j) (by omega)).1 (bgn_lt.2 hc)
    omega
  conv => lhs; rw [hsplit]
  rw [List.find?_append, hnone, Option.or_none]
theorem gone_meet {y z : Wl} (hy : GoodW y) (hz : GoodW z) (h : cmpP y.B z.A ≤ 0) : meetS y.A y.B z.A z.B = 0 := by
  have kY : key y.A < key y.B := (cmp_lt hy.va hy.vb).1 hy.ab
  have kZ : key z.A < key z.B := (cmp_lt hz.va hz.vb).1 hz.ab
  have fk : ∀ p : Pt, ff 16777216 1 p = key p := fun p => by unfold ff key; omega
  by_cases h0 : cmpP y.B z.A = 0
  · have e := cmpP_eq0.1 h0
    have e2 : peqI y.B.x y.B.y z.A.x z.A.y = true := by rw [peqI_dec]; simp [e]
    unfold meetS
    repeat' split
    all_goals first | rfl | skip
    · unfold mil
      have h1 : ¬ cmpP y.B y.A < 0 := by have := hy.ab; rw [cmpP_neg]; omega
      have h2 : ¬ cmpP z.B z.A < 0 := by have := hz.ab; rw [cmpP_neg]; omega
      rw [show lo2 z.A z.B = z.A by unfold lo2; rw [if_neg h2], show hi2 y.A y.B = y.B by unfold hi2; rw [if_neg h1], ← e, cmpP_eq0.2 rfl]
      split <;> simp
  · have h1 : cmpP y.B z.A < 0 := by omega
    have hk : key y.B < key z.A := (cmp_lt hy.vb hz.va).1 h1
    exact meet_apart 16777216 1 (key z.A) (by rw [fk]; omega) (by rw [fk]; omega) (by rw [fk]; omega) (by rw [fk]; omega)
theorem opn_spec {S : List Wl} : ∀ k, k ≤ S.length → ∀ y ∈ S.take k, y ∈ opn (S.take k) ∨ ∃ x ∈ S.take k, cmpP y.B x.A ≤ 0 := by
  intro k
  induction k with
  | zero => intro _ y hy; simp at hy
  | succ k ih =>
    intro hk y hy
    have hkl : k < S.length := by omega
    rw [List.take_succ_eq_append_getElem hkl] at hy ⊢
    rw [opn_snoc]
    rcases List.mem_append.1 hy with hy | hy
    · rcases ih (by omega) y hy with h | ⟨x, hx, hc⟩
      · cases hg : gone S[k] y with
        | true => exact .inr ⟨S[k], List.mem_append_right _ (List.mem_singleton.2 rfl), by unfold gone at hg; simpa using hg⟩
        | false => exact .inl (List.mem_append_left _ (List.mem_filter.2 ⟨h, by rw [hg]; rfl⟩))
      · exact .inr ⟨x, List.mem_append_left _ hx, hc⟩
    · exact .inl (List.mem_append_right _ hy)
/-- Where the sweep finds nothing, no two meet. -/
theorem hit_apart {S : List Wl} (hr : Ris S) (hg : ∀ x ∈ S, GoodW x) (hh : ¬ ∃ (k : Nat) (h : k < S.length), hitB (S.take k) S[k] = true) : Apart S := by
  unfold Apart
  rw [List.pairwise_iff_getElem]
  intro i j hi hj hij
  by_cases hm : meetS S[i].A S[i].B S[j].A S[j].B = 0
  · exact hm
  · exfalso
    have gi := hg _ (List.getElem_mem hi)
    have gj := hg _ (List.getElem_mem hj)
    obtain ⟨_, hb⟩ := (bar_meet gi gj).2 hm
    have hnb : ¬ cmpP S[i].B S[j].A ≤ 0 := fun h => hm (gone_meet gi gj h)
    have hi2 : S[i] ∈ S.take j := List.mem_take_iff_getElem.2 ⟨i, by omega, rfl⟩
    rcases opn_spec j (by omega) S[i] hi2 with h | ⟨x, hx, hc⟩
    · refine hh ⟨j, hj, ?_⟩
      unfold hitB
      rw [List.any_eq_true]
      exact ⟨S[i], List.mem_filter.2 ⟨h, by unfold gone; simpa using hnb⟩, hb⟩
    · obtain ⟨m, hm2, rfl⟩ := List.mem_take_iff_getElem.1 hx
      have hmj : m < j := by omega
      have h1 := cmpA_le (rising_lt hr (by omega) hj hmj)
      exact hnb (wholeP.le_trans hc h1)
def SameE (x y : Wl) : Prop := x.A = y.A ∧ x.B = y.B
theorem twice_pair {L : List Wl} : ¬ TwiceD L ↔ L.Pairwise (fun x y => ¬ SameE x y) := by
  rw [List.pairwise_iff_getElem]
  constructor
  · intro h i j hi hj hij e
    exact h ⟨j, i, hj, hij, e.1.symm, e.2.symm⟩
  · rintro h ⟨i, k, hi, hk, e1, e2⟩
    exact h k i (by omega) hi hk ⟨e1.symm, e2.symm⟩
theorem same_perm {L M : List Wl} (h : L.Perm M) : L.Pairwise (fun x y => ¬ SameE x y) ↔ M.Pairwise (fun x y => ¬ SameE x y) :=
  h.pairwise_iff fun {_ _} e h => e ⟨h.1.symm, h.2.symm⟩
theorem cmpW_ends {x y : Wl} (h : cmpW x y ≤ 0) : cmpP x.A y.A < 0 ∨ (x.A = y.A ∧ cmpP x.B y.B ≤ 0) := by
  rcases Int.lt_or_eq_of_le h with h | h
  · rw [cmpW_lt] at h
    rcases h with h | ⟨e, h | ⟨e2, _⟩⟩
    · exact .inl h
    · exact .inr ⟨e, by omega⟩
    · exact .inr ⟨e, by rw [e2, cmpP_eq0.2 rfl]; omega⟩
  · rw [cmpW_eq0.1 h]; exact .inr ⟨rfl, by rw [cmpP_eq0.2 rfl]; omega⟩
theorem cmpP_anti0 {p q : Pt} (h1 : cmpP p q ≤ 0) (h2 : cmpP q p ≤ 0) : p = q := by
  have := cmpP_neg p q
  exact cmpP_eq0.1 (by omega)
theorem adj_pair {S : List Wl} (ho : InOrder cmpW S) : (¬ ∃ (i : Nat) (h : i + 1 < S.length), adjB S[i] S[i + 1] = true) ↔ S.Pairwise (fun x y => ¬ SameE x y) := by
  have ho2 := List.pairwise_iff_getElem.1 ho
  rw [List.pairwise_iff_getElem]
  constructor
  · intro h i j hi hj hij e
    refine h ⟨i, by omega, ?_⟩
    unfold adjB
    by_cases hj1 : j = i + 1
    · subst hj1; simp [e.1, e.2]
    · have h1 := cmpW_ends (ho2 i (i + 1) hi (by omega) (by omega))
      have h2 := cmpW_ends (ho2 (i + 1) j (by omega) hj (by omega))
      have hA : S[i].A = S[i + 1].A := by
        rcases h1 with h1 | ⟨e1, _⟩
        · exfalso
          rcases h2 with h2 | ⟨e2, _⟩
          · have h3 := cmpP_trans h1 h2
            rw [e.1, cmpP_eq0.2 rfl] at h3; omega
          · rw [e.1, ← e2, cmpP_eq0.2 rfl] at h1; omega
        · exact e1
      have h1' : cmpP S[i].B S[i + 1].B ≤ 0 := by
        rcases h1 with h1 | ⟨_, h1⟩
        · rw [hA, cmpP_eq0.2 rfl] at h1; omega
        · exact h1
      have h2' : cmpP S[i + 1].B S[j].B ≤ 0 := by
        rcases h2 with h2 | ⟨_, h2⟩
        · rw [← hA, e.1, cmpP_eq0.2 rfl] at h2; omega
        · exact h2
      have hB : S[i].B = S[i + 1].B := cmpP_anti0 h1' (by rw [e.2]; exact h2')
      simp [hA, hB]
  · rintro h ⟨i, hi, hb⟩
    unfold adjB at hb
    simp only [Bool.and_eq_true, decide_eq_true_eq] at hb
    exact h i (i + 1) (by omega) hi (by omega) hb
theorem ris_of {S : List Wl} (ho : InOrder cmpW S) (hp : S.Pairwise (fun x y => ¬ SameE x y)) : Ris S := by
  unfold Ris Rising
  have := List.pairwise_and_iff.2 ⟨ho, hp⟩
  refine this.imp fun {x y} h => ?_
  have h0 : cmpW x y ≠ 0 := fun e => h.2 (by rw [cmpW_eq0.1 e]; exact ⟨rfl, rfl⟩)
  have := h.1
  omega
theorem adds_spec {I S : List Wl} (h : AddsOk I S) (hg : ∀ x ∈ I, GoodW x) : S.Perm I ∧ Ris S ∧ Apart S := by
  induction h with
  | nil => exact ⟨List.Perm.refl _, List.Pairwise.nil, List.Pairwise.nil⟩
  | @snoc I S S' x hI ha ih =>
    obtain ⟨hp, hr, hap⟩ := ih fun y hy => hg y (List.mem_append_left _ hy)
    have hgS : ∀ y ∈ S, GoodW y := fun y hy => hg y (List.mem_append_left _ (hp.mem_iff.1 hy))
    obtain ⟨h1, h2, h3⟩ := add_at hr hgS ha
    have hpe : (addL S x).Perm (x :: S) := addL_perm h1.symm
    refine ⟨?_, h3, ?_⟩
    · rw [h2]
      exact hpe.trans ((List.Perm.cons x hp).trans (List.perm_append_singleton x I).symm)
    · rw [h2]; exact apart_add hgS hap
/-- NewWalls and New answer the same. -/
theorem new_same0 {L S : List Wl} {r : Int} {L' : List Wl} (hperm : S.Perm L) (hord : InOrder cmpW S) (h : NewAt L r L') :
    (r = 2 ∧ L.any unm = true) ∨ (L.any unm = false ∧ ((r = 5 ∧ ∃ (i : Nat) (h : i + 1 < S.length), adjB S[i] S[i + 1] = true) ∨
      ((¬ ∃ (i : Nat) (h : i + 1 < S.length), adjB S[i] S[i + 1] = true) ∧
        ((r = 7 ∧ ∃ (k : Nat) (h : k < S.length), hitB (S.take k) S[k] = true) ∨
          (r = 0 ∧ (¬ ∃ (k : Nat) (h : k < S.length), hitB (S.take k) S[k] = true) ∧ L' = S ∧ Apart L' ∧ Ris L' ∧ ∀ x ∈ L', GoodW x))))) := by
  rcases h with ⟨h1, h2⟩ | ⟨hu, h⟩
  · exact .inl ⟨h2, h1⟩
  · refine .inr ⟨hu, ?_⟩
    have hgL : ∀ x ∈ L, GoodW x := fun x hx => mkOk_good (by
      have := List.any_eq_false.1 hu x hx
      simpa using this)
    have hgS : ∀ x ∈ S, GoodW x := fun x hx => hgL x (hperm.mem_iff.1 hx)
    rcases h with ⟨ht, h5⟩ | ⟨ht, h⟩
    · refine .inl ⟨h5, ?_⟩
      by_cases ha : ∃ (i : Nat) (h : i + 1 < S.length), adjB S[i] S[i + 1] = true
      · exact ha
      · exact absurd (twice_pair.2 ((same_perm hperm).1 ((adj_pair hord).1 ha))) (fun h => h ht)
    · have hpL := twice_pair.1 ht
      have hpS := (same_perm hperm).2 hpL
      refine .inr ⟨(adj_pair hord).2 hpS, ?_⟩
      have hris := ris_of hord hpS
      rcases h with ⟨h0, hads⟩ | ⟨h0, k, hk, S', hads, hre⟩
      · obtain ⟨hp', hr', ha'⟩ := adds_spec hads hgL
        have e : L' = S := perm_eq hr' hris (hp'.trans hperm.symm)
        subst e
        exact .inr ⟨h0, (set_new hr' ha' hgS).2.2.2, rfl, ha', hr', hgS⟩
      · have hgk : ∀ x ∈ L.take k, GoodW x := fun x hx => hgL x (List.mem_of_mem_take hx)
        obtain ⟨hp', hr', ha'⟩ := adds_spec hads hgk
        have hgS' : ∀ x ∈ S', GoodW x := fun x hx => hgk x (hp'.mem_iff.1 hx)
        have hX := hgL _ (List.getElem_mem hk)
        rw [addDE_eq hgS'] at hre
        have hno : ∀ x ∈ S', ¬ SameE x L[k] := fun x hx e => by
          obtain ⟨m, hm, rfl⟩ := List.mem_take_iff_getElem.1 (hp'.mem_iff.1 hx)
          exact (List.pairwise_iff_getElem.1 hpL) m k (by omega) hk (by omega) e
        have HAPX : ∀ x ∈ S', Apart L → meetS x.A x.B L[k].A L[k].B = 0 := fun x hx hap => by
          obtain ⟨m, hm, rfl⟩ := List.mem_take_iff_getElem.1 (hp'.mem_iff.1 hx)
          exact apart_iff hap (by omega) hk (by omega)
        generalize L[k] = X at *
        have hu0 := good_unm hX
        obtain ⟨hlA, hlB⟩ := good_lo hX
        have hmk := good_mk hX
        unfold addE clashW at hre
        rw [hu0, if_neg (by simp), if_pos hmk, hlA, hlB] at hre
        have hk0 : kindW S' X.A X.B = 0 := by
          unfold kindW
          cases hf : S'.find? (isW X.A X.B) with
          | none => rfl
          | some x =>
            exfalso
            have h1 := List.find?_some hf
            obtain ⟨e1, e2⟩ := isW_iff.1 h1
            exact hno x (List.mem_of_find?_eq_some hf) ⟨e1, e2⟩
        rw [if_pos hk0] at hre
        by_cases hb : (bgL S' X.B).any (fun x => bar1 x ⟨X.A, X.B, 1⟩) = true
        · rw [if_pos hb] at hre
          refine .inl ⟨hre, ?_⟩
          by_cases hh : ∃ (k : Nat) (h : k < S.length), hitB (S.take k) S[k] = true
          · exact hh
          · exfalso
            have hapS := hit_apart hris hgS hh
            have hapL : Apart L := apart_perm hperm hapS
            obtain ⟨x, hx, hbx⟩ := List.any_eq_true.1 hb
            obtain ⟨hx1, hx2⟩ := List.mem_filter.1 hx
            have hX1 : GoodW (⟨X.A, X.B, 1⟩ : Wl) := ⟨hX.va, hX.vb, hX.ab, .inl rfl⟩
            have hme := (bar_meet (hgS' x hx1) hX1).1 ⟨by simpa using hx2, hbx⟩
            exact hme (HAPX x hx1 hapL)
        · rw [if_neg hb] at hre; exact absurd hre h0
theorem new_same {L : List Wl} {r : Int} {L' : List Wl} (h : NewAt L r L') :
    (r = 2 ∧ L.any unm = true) ∨ (L.any unm = false ∧ ((r = 5 ∧ ∃ (i : Nat) (h : i + 1 < (srt cmpW L).length), adjB (srt cmpW L)[i] (srt cmpW L)[i + 1] = true) ∨
      ((¬ ∃ (i : Nat) (h : i + 1 < (srt cmpW L).length), adjB (srt cmpW L)[i] (srt cmpW L)[i + 1] = true) ∧
        ((r = 7 ∧ ∃ (k : Nat) (h : k < (srt cmpW L).length), hitB ((srt cmpW L).take k) (srt cmpW L)[k] = true) ∨
          (r = 0 ∧ (¬ ∃ (k : Nat) (h : k < (srt cmpW L).length), hitB ((srt cmpW L).take k) (srt cmpW L)[k] = true) ∧ L' = srt cmpW L ∧ Apart L' ∧ Ris L' ∧ ∀ x ∈ L', GoodW x))))) := new_same0 (srt_perm L) (wholeW.srt_order L) h
end Go.Proofs.Ytnocdecimcpkfaa

namespace Go.Proofs.Ytnocdecimcpkfaa.FT
open Go.RowKit Go.Sort
variable {P : Program} {Q : Exit → Act → World → Prop}
/-- The same, where the class is any that holds of all that extends the world, and stays. -/
theorem wp_region_flowC {id : Nat} {a : Act} {w : World} {l : List Oper} (n : Nat) (pl : Plan) (hm : P.follows .mixedOrders = true) (hB : (Region.noSelect l.toArray && decide (n < l.toArray.size) && Region.sinkB .any l.toArray n && Region.chainB .any l.toArray n && planB .any n l.toArray [] pl (Array.replicate l.toArray.size false)) = true)
    (hQ : ∀ c x v a w, Q (.panic c) (Act.put a x v) w → Q (.panic c) a w) {C : World → Prop} (hC : ∀ w', Below w.heap.size w w' → C w') (hcl : ∀ x y, Ext x y → C x → C y) (h : flow P l.toArray n Q pl C a w) : (Code.region id l.toArray true).wp P Q a w := by
  simp only [Bool.and_eq_true, decide_eq_true_eq] at hB
  obtain ⟨⟨⟨⟨h1, h2⟩, h3⟩, h4⟩, h5⟩ := hB
  refine wp_region_any hm ?_
  have hx : Ext w { w with drawn := w.drawn + 1 } := ⟨rfl, rfl, rfl, Nat.le_refl _, fun _ _ => rfl⟩
  exact flow_sound h1 h2 h3 h4 hQ _ pl C _ a w _ h5 headInv0 (by
    have := List.length_filter_le (fun i => !(Array.replicate l.toArray.size false).getD i true) (List.range n)
    rw [List.length_range] at this
    unfold undone
    omega) hcl (hC _ hx) hx h
end Go.Proofs.Ytnocdecimcpkfaa.FT

namespace Go.Proofs.Ytnocdecimcpkfaa
open Go.RowKit Go.Sort Go.ChangeShapes Go.WideShapes Go.ChangeAt
structure Ac where
  k : Int
  W : Wl
  P : Pt
instance : Inhabited Ac := ⟨⟨0, default, ⟨0, 0⟩⟩⟩
def cA (t : Ac) : List Value := [.int .i64 t.k, .int .i64 t.W.A.x, .int .i64 t.W.A.y, .int .i64 t.W.B.x, .int .i64 t.W.B.y, .int .i64 t.W.K, .int .i64 t.P.x, .int .i64 t.P.y]
def Eight (w : World) (A : Addr) (p : Ac) : Prop := A.block < w.heap.size ∧ w.cell? A = some (.int .i64 p.k) ∧ w.cell? ⟨A.block, A.off + 1, none⟩ = some (.int .i64 p.W.A.x) ∧ w.cell? ⟨A.block, A.off + 2, none⟩ = some (.int .i64 p.W.A.y) ∧ w.cell? ⟨A.block, A.off + 3, none⟩ = some (.int .i64 p.W.B.x) ∧ w.cell? ⟨A.block, A.off + 4, none⟩ = some (.int .i64 p.W.B.y) ∧ w.cell? ⟨A.block, A.off + 5, none⟩ = some (.int .i64 p.W.K) ∧ w.cell? ⟨A.block, A.off + 6, none⟩ = some (.int .i64 p.P.x) ∧ w.cell? ⟨A.block, A.off + 7, none⟩ = some (.int .i64 p.P.y)
theorem RowAt.eight {w : World} {a : Option Addr} {L : List Ac} (h : RowAt cA 8 w a L) {j : Nat} (hj : j < L.length) : ∃ ad A, a = some ad ∧ ad.add (j * 8) = A ∧ Eight w A L[j] := by
  obtain ⟨ad, h1, h2, h3⟩ := h j L[j] (List.getElem?_eq_getElem hj)
  have hb : (ad.add (j * 8)).block = ad.block := addr_block _ _
  refine ⟨ad, _, h1, rfl, by rw [hb]; exact h2, ?_⟩
  have e0 := h3 0 _ rfl
  have e1 := h3 1 _ rfl
  have e2 := h3 2 _ rfl
  have e3 := h3 3 _ rfl
  have e4 := h3 4 _ rfl
  have e5 := h3 5 _ rfl
  have e6 := h3 6 _ rfl
  have e7 := h3 7 _ rfl
  simp only [Addr.add_zero', Addr.add_succ'] at e0 e1 e2 e3 e4 e5 e6 e7
  exact ⟨e0, e1, e2, e3, e4, e5, e6, e7⟩
theorem Eight.facts {w : World} {A : Addr} {p : Ac} (h : Eight w A p) : ((A.block = w.heap.size) = False) ∧ w.cell? A = some (.int .i64 p.k) ∧ w.cell? ⟨A.block, A.off + 1, none⟩ = some (.int .i64 p.W.A.x) ∧ w.cell? ⟨A.block, A.off + 2, none⟩ = some (.int .i64 p.W.A.y) ∧ w.cell? ⟨A.block, A.off + 3, none⟩ = some (.int .i64 p.W.B.x) ∧ w.cell? ⟨A.block, A.off + 4, none⟩ = some (.int .i64 p.W.B.y) ∧ w.cell? ⟨A.block, A.off + 5, none⟩ = some (.int .i64 p.W.K) ∧ w.cell? ⟨A.block, A.off + 6, none⟩ = some (.int .i64 p.P.x) ∧ w.cell? ⟨A.block, A.off + 7, none⟩ = some (.int .i64 p.P.y) := ⟨by simp; have := h.1; omega, h.2⟩
theorem okWide_flat {P : Program} {w : World} {r : Reach} {base : Nat} {t e : TypeId} (ht : P.underlying t = some (.slice e)) {a : Option Addr} {n c : Nat} (h : Value.okWide P w r base t (.slice a n c)) : Flat a := by
  simp only [Value.okWide, ht, Cell.okWide] at h
  cases a with
  | none => intro ad e; cases e
  | some A =>
    intro ad e
    cases e
    simp only [Cell.ok, ht] at h
    exact h.2.2.2.1
section
variable {H : Type} {enc : TypeId × Value → H} {w : World} {base : Nat → Bool} {spare : Bool}
theorem list8 {l : List Value} (h : l.length = 8) : ∃ a b c d e f g i, l = [a, b, c, d, e, f, g, i] := by
  match l, h with
  | [a, b, c, d, e, f, g, i], _ => exact ⟨a, b, c, d, e, f, g, i, rfl⟩
set_option maxRecDepth 100000 in
theorem trod_act {b0 : Nat} {fuel : Nat} {cs : List Value} {y : DataW H × List MemPlace} (hl : cs.length = 8) (hf : DataW.trod enc Try.prog w b0 base spare fuel 37 cs = some y) :
    ∃ T : Ac, cs = cA T := by
  obtain ⟨c0, c1, c2, c3, c4, c5, c6, c7, hc⟩ := list8 hl
  subst hc
  obtain ⟨y0, y1, y2, n, hx, _, h0, h1, h2⟩ := Deep.trod_struct3 Try.underlying37 hf
  have e2 : Try.prog.cellsOf 33 = 2 := by kernel_rfl
  have e5 : Try.prog.cellsOf 35 = 5 := by kernel_rfl
  have e1 : Try.prog.cellsOf 3 = 1 := by kernel_rfl
  simp only [e1, e2, e5] at h0 h1 h2
  simp only [List.drop_zero, List.take_succ_cons, List.take_zero, List.drop_succ_cons] at h0 h1 h2
  obtain ⟨a0, h4, rfl, _⟩ := DataW.trod_int Try.underlying3 h0
  obtain ⟨W, hW⟩ := trod_wal (by rfl) h1
  obtain ⟨a6, a7, rfl, rfl⟩ := trod_ptW h2
  simp at h4
  subst h4
  simp only [cW, List.cons.injEq, and_true] at hW
  obtain ⟨rfl, rfl, rfl, rfl, rfl⟩ := hW
  exact ⟨⟨a0, W, ⟨a6, a7⟩⟩, rfl⟩
set_option maxRecDepth 100000 in
theorem open_rowA {r : Reach} {b0 b1 : Nat} {v : Value} {d : DataW H} {p : List MemPlace} (hv : Value.okWide Try.prog w r b1 23 v) (h : DataW.Trod enc Try.prog w b0 base spare 23 v d p) :
    ∃ (a : Option Addr) (n cap : Nat) (L : List Ac), v = .slice a n cap ∧ L.length = n ∧ RowAt cA 8 w a L := by
  obtain ⟨a0, n0, k0, rfl⟩ := okWide_slice Try.underlying23 hv
  obtain ⟨fuel, hf⟩ := h
  simp only [Value.cells] at hf
  rcases Deep.open_slice Try.underlying23 hf with ⟨hcs, _⟩ | ⟨a, len, cap, m, n, D, Pl, hcs, hb, hl, hm, hmm, hx, hi⟩
  · simp only [List.cons.injEq, Value.slice.injEq, and_true] at hcs
    obtain ⟨rfl, rfl, rfl⟩ := hcs
    exact ⟨none, 0, 0, [], rfl, rfl, fun j x hx => (by simp at hx)⟩
  · simp only [List.cons.injEq, Value.slice.injEq, and_true] at hcs
    obtain ⟨rfl, rfl, rfl⟩ := hcs
    have hlm : n0 ≤ m := by rw [hmm]; split <;> omega
    have each : ∀ i, i < n0 → ∃ T : Ac, ∀ j u, (cA T)[j]? = some u → w.cell? ((a.add (i * 8)).add j) = some u := fun i hin => by
      obtain ⟨cs', h1, h2⟩ := hi i (by omega)
      rw [show Try.prog.cellsOf 37 = 8 by kernel_rfl] at h1
      obtain ⟨_, hlen, hcell⟩ := World.cells?_some h1
      obtain ⟨T, rfl⟩ := trod_act hlen h2
      refine ⟨T, fun j u hu => ?_⟩
      rw [hcell j (by have := (List.getElem?_eq_some_iff.1 hu).1; rwa [hlen] at this)]; exact hu
    obtain ⟨f, hf2⟩ := Deep.choose_lt each
    refine ⟨some a, n0, k0, (List.range n0).map f, rfl, by simp, fun j x hx => ?_⟩
    rw [List.getElem?_map] at hx
    obtain ⟨i, hi1, rfl⟩ := Option.map_eq_some_iff.1 hx
    have hj : j < n0 ∧ i = j := by
      obtain ⟨h1, h2⟩ := List.getElem?_eq_some_iff.1 hi1
      simp at h1 h2; exact ⟨h1, h2.symm⟩
    obtain ⟨hj, rfl⟩ := hj
    have hc := hf2 i hj
    refine ⟨a, rfl, ?_, hc⟩
    have h4 := hc 0 _ rfl
    unfold World.cell? at h4
    rw [addr_block, addr_block] at h4
    rcases Nat.lt_or_ge a.block w.heap.size with h' | h'
    · exact h'
    · simp [Array.getElem?_eq_none h'] at h4
end
end Go.Proofs.Ytnocdecimcpkfaa
