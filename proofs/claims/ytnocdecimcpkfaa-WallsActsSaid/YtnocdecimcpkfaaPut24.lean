/- Put together: WalX, WalY, WalZ, WalRow, Trod. -/
import Derived.Test.YtnocdecimcpkfaaRows
import Derived.Test.YtnocdecimcpkfaaPut23
import Derived.Deep.Slices
import Derived.Carry
import Derived.Test.YtnocdecimcpkfaaPut20
import Derived.Test.YtnocdecimcpkfaaPut1
import Derived.WalkKit
import Derived.WalkSpells
import Derived.WalkLawsBesides
import Derived.Deep.QuietTactic
import Derived.BigQuiet
import Derived.Lib.Hide
import Derived.Handy
import Derived.Test.YtnocdecimcpkfaaPut16
import Derived.ProofKit
import Derived.Lib.SmallJoins
import Derived.Deep.Strs
import Derived.WideKeyArgs
namespace Go.Proofs.Ytnocdecimcpkfaa
open Go.RowKit Go.Sort Go.Lib Go.ChangeShapes Go.WideShapes Go.ChangeAt

theorem apart_iff {L : List Wl} (h : Apart L) {i j : Nat} (hi : i < L.length) (hj : j < L.length) (hij : i ≠ j) : meetS L[i].A L[i].B L[j].A L[j].B = 0 := by
  unfold Apart at h
  rw [List.pairwise_iff_getElem] at h
  rcases Nat.lt_or_gt_of_ne hij with h1 | h1
  · exact h i j hi hj h1
  · rw [← meet_sw3]; exact h j i hj hi h1
/-- Of a set, the wall between two of its own ends is itself. -/
theorem kind_own {L : List Wl} (h : Apart L) (hg : ∀ x ∈ L, GoodW x) {x : Wl} (hx : x ∈ L) : kindW L x.A x.B = x.K := by
  unfold kindW
  cases hf : L.find? (isW x.A x.B) with
  | none =>
    have := List.find?_eq_none.1 hf x hx
    exact absurd (isW_iff.2 ⟨rfl, rfl⟩) this
  | some y =>
    have hy := List.mem_of_find?_eq_some hf
    have e := isW_iff.1 (List.find?_some hf)
    obtain ⟨i, hi, rfl⟩ := List.mem_iff_getElem.1 hx
    obtain ⟨j, hj, rfl⟩ := List.mem_iff_getElem.1 hy
    by_cases hij : i = j
    · subst hij; rfl
    · exfalso
      have := apart_iff h hj hi (Ne.symm hij)
      rw [e.1, e.2] at this
      exact meet_self1 (hg _ (List.getElem_mem hi)) this
theorem add_zero {L : List Wl} {X : Wl} (h : addE L X = 0) : unm X = false ∧ clashW L X.A X.B = 0 := by
  unfold addE at h
  cases hu : unm X with
  | true => rw [hu, if_pos rfl] at h; cases h
  | false => rw [hu, if_neg (by simp)] at h; exact ⟨rfl, h⟩
theorem addL_mem {L : List Wl} {X x : Wl} (h : addE L X = 0) : x ∈ addL L X ↔ x = X ∨ x ∈ L := by
  unfold addL
  rw [if_pos (add_zero h)]
  exact ins_mem
theorem addL_len {L : List Wl} {X : Wl} (h : addE L X = 0) : (addL L X).length = L.length + 1 := by
  unfold addL
  rw [if_pos (add_zero h)]
  simp only [List.length_append, List.length_cons, List.length_take, List.length_drop]; omega
theorem addL_no {L : List Wl} {X : Wl} (h : ¬ addE L X = 0) : addL L X = L := by
  unfold addL
  rw [if_neg]
  rintro ⟨h1, h2⟩
  exact h (by unfold addE; rw [h1, if_neg (by simp)]; exact h2)
/-- What has just been added is there. -/
theorem add_have {L : List Wl} {X : Wl} (hg : ∀ x ∈ L, GoodW x) (h : Apart L) (he : addE L X = 0) : clashW (addL L X) X.A X.B = 5 := by
  obtain ⟨hu, hz⟩ := add_zero he
  have hX := mkOk_good hu
  obtain ⟨hA, hB⟩ := good_lo hX
  have hm := kind_own (apart_add (X := X) hg h) (fun x hx => by
    rcases (addL_mem he).1 hx with rfl | hx
    · exact hX
    · exact hg x hx) ((addL_mem he).2 (.inl rfl))
  have hk : mkOk X.A X.B 1 = true := by
    have hab : X.A ≠ X.B := fun e => by have := hX.ab; rw [e, cmpP_eq0.2 rfl] at this; omega
    unfold mkOk mkK; simp [hX.va, hX.vb, hab]
  unfold clashW
  rw [hA, hB, if_pos hk, hm, if_neg (by have := hX.k; omega)]
/-- A set's walls make a set. -/
theorem set_new {L : List Wl} (hr : Ris L) (h : Apart L) (hg : ∀ x ∈ L, GoodW x) : srt cmpW L = L ∧ L.any unm = false ∧ (¬ ∃ (i : Nat) (h : i + 1 < L.length), adjB L[i] L[i + 1] = true) ∧ ¬ ∃ (k : Nat) (h : k < L.length), hitB (L.take k) L[k] = true := by
  refine ⟨(wholeW.srt_eq (List.Perm.refl L) (hr.imp fun h => by omega)).symm, ?_, ?_, ?_⟩
  · rw [List.any_eq_false]
    intro x hx
    rw [good_unm (hg x hx)]; simp
  · rintro ⟨i, hi, e⟩
    unfold adjB at e
    simp only [Bool.and_eq_true, decide_eq_true_eq] at e
    have := apart_iff h (show i < L.length by omega) hi (by omega)
    rw [e.1, e.2] at this
    exact meet_self1 (hg _ (List.getElem_mem hi)) this
  · rintro ⟨k, hk, e⟩
    unfold hitB at e
    rw [List.any_eq_true] at e
    obtain ⟨y, hy, hb⟩ := e
    have hy2 : y ∈ L.take k := by
      have := List.mem_filter.1 hy
      have sub : ∀ (M o : List Wl) (z : Wl), z ∈ M.foldl (fun o x => o.filter (fun y => !gone x y) ++ [x]) o → z ∈ o ∨ z ∈ M := by
        intro M
        induction M with
        | nil => intro o z hz; exact .inl hz
        | cons x M ih =>
          intro o z hz
          rcases ih _ z hz with h1 | h1
          · rcases List.mem_append.1 h1 with h1 | h1
            · exact .inl (List.mem_filter.1 h1).1
            · exact .inr (List.mem_cons.2 (.inl (by simpa using h1)))
          · exact .inr (List.mem_cons.2 (.inr h1))
      rcases sub (L.take k) [] y this.1 with h1 | h1
      · cases h1
      · exact h1
    obtain ⟨j, hj, rfl⟩ := List.mem_take_iff_getElem.1 hy2
    unfold bar1 at hb
    simp only [Bool.and_eq_true, decide_eq_true_eq] at hb
    exact hb.2 (apart_iff h (by omega) hk (by omega))
/-- A new set of none. -/
theorem new_none (w : World) : Calls Try.prog 8 #[.slice none 0 0] w fun e w' => ∃ sb v, e = .returned (.tuple #[.pointer (some ⟨sb, 0, none⟩), .int .i64 0]) ∧ SetAt w' sb v [] ∧ w.heap.size ≤ sb ∧ (∀ g, v.ownBlock = some g → w.heap.size ≤ g) ∧ Below w.heap.size w w' := by
  have hs : srt cmpW ([] : List Wl) = [] := by simp [srt]
  refine (new_ok none 0 [] (by simp) (fun _ h => by cases h) (fun _ => rfl) [] hs false rfl (iff_no fun ⟨i, h, _⟩ => by simp at h) false rfl (iff_no fun ⟨k, h, _⟩ => by simp at h) rfl w RowAt.nil).mono ?_
  rintro e w' ⟨sb, v, rfl, h1, h2, h3, h4, h5⟩
  exact ⟨sb, v, rfl, ⟨h1, h2.base (Nat.zero_le _), h4, by simp, by simp [Ris, Rising], by simp⟩, h3, fun g e => (h2.lt g e).1, h5⟩
/-- A set of a set's walls. -/
theorem new_set {a : Option Addr} {c : Nat} {L : List Wl} (hL : L.length < 1000000) (hf : Flat a) (hz : a = none → L = []) (hr : Ris L) (h : Apart L) (hg : ∀ x ∈ L, GoodW x) (w : World) (hrow : RowAt cW 5 w a L) :
    Calls Try.prog 8 #[.slice a L.length c] w fun e w' => ∃ sb v, e = .returned (.tuple #[.pointer (some ⟨sb, 0, none⟩), .int .i64 0]) ∧ SetAt w' sb v L ∧ w.heap.size ≤ sb ∧ (∀ g, v.ownBlock = some g → w.heap.size ≤ g) ∧ Below w.heap.size w w' := by
  obtain ⟨h1, h2, h3, h4⟩ := set_new hr h hg
  refine (new_ok a c L hL hf hz L h1 false rfl (iff_no h3) false rfl (iff_no h4) h2 w hrow).mono ?_
  rintro e w' ⟨sb, v, rfl, h1, h2, h3, h4, h5⟩
  exact ⟨sb, v, rfl, ⟨h1, h2.base (Nat.zero_le _), h4, by omega, hr, hg⟩, h3, fun g e => (h2.lt g e).1, h5⟩
end Go.Proofs.Ytnocdecimcpkfaa

namespace Go.Proofs.Ytnocdecimcpkfaa

theorem good_mk {X : Wl} (hX : GoodW X) : mkOk X.A X.B 1 = true := by
  have hab : X.A ≠ X.B := fun e => by have := hX.ab; rw [e, cmpP_eq0.2 rfl] at this; omega
  unfold mkOk mkK; simp [hX.va, hX.vb, hab]
theorem clash_ok {L : List Wl} {X : Wl} (hX : GoodW X) (hm : ∀ x ∈ L, meetS x.A x.B X.A X.B = 0) : clashW L X.A X.B = 0 := by
  obtain ⟨hA, hB⟩ := good_lo hX
  unfold clashW
  rw [hA, hB, if_pos (good_mk hX)]
  have hk : kindW L X.A X.B = 0 := by
    unfold kindW
    cases hf : L.find? (isW X.A X.B) with
    | none => rfl
    | some y =>
      exfalso
      have hy := List.mem_of_find?_eq_some hf
      have e := isW_iff.1 (List.find?_some hf)
      have := hm y hy
      rw [e.1, e.2] at this
      exact meet_self1 hX this
  rw [if_pos hk, if_neg]
  intro h
  rw [List.any_eq_true] at h
  obtain ⟨x, hx, hb⟩ := h
  unfold bar1 at hb
  simp only [Bool.and_eq_true, decide_eq_true_eq] at hb
  exact hb.2 (hm x (List.mem_filter.1 hx).1)
theorem add_ok_of {L : List Wl} {X : Wl} (hX : GoodW X) (hm : ∀ x ∈ L, meetS x.A x.B X.A X.B = 0) : addE L X = 0 := by
  unfold addE
  rw [good_unm hX, if_neg (by simp)]
  exact clash_ok hX hm
theorem addL_perm {L : List Wl} {X : Wl} (h : addE L X = 0) : (addL L X).Perm (X :: L) := by
  unfold addL
  rw [if_pos (add_zero h)]
  have := List.perm_middle (a := X) (l₁ := L.take (posW L X.A X.B)) (l₂ := L.drop (posW L X.A X.B))
  rwa [List.take_append_drop] at this
theorem perm_eq {L M : List Wl} (hL : Ris L) (hM : Ris M) (hp : L.Perm M) : L = M := rising_unique wholeW hL hM (fun _ => hp.mem_iff)
theorem apart_perm {L M : List Wl} (hp : L.Perm M) (h : Apart L) : Apart M := (hp.pairwise_iff (fun {x y} e => by rw [← meet_sw3]; exact e)).1 h
theorem pos_own {L : List Wl} (hr : Ris L) (h : Apart L) (hg : ∀ x ∈ L, GoodW x) {k : Nat} (hk : k < L.length) : remE L L[k].A L[k].B = 0 ∧ remL L L[k].A L[k].B = L.take k ++ L.drop (k + 1) := by
  have hK : ∀ x ∈ L, 0 < x.K := fun x hx => by have := (hg x hx).k; omega
  cases hf : fnd L (posW L L[k].A L[k].B) L[k].A L[k].B with
  | false =>
    have := List.find?_eq_none.1 (fnd_false hr hf hK) _ (List.getElem_mem hk)
    exact absurd (isW_iff.2 ⟨rfl, rfl⟩) this
  | true =>
    obtain ⟨hm, _, e1, e2⟩ := fnd_true hr hf hK
    have hp : posW L L[k].A L[k].B = k := by
      by_cases e : posW L L[k].A L[k].B = k
      · exact e
      · exfalso
        have := apart_iff h hm hk e
        rw [e1, e2] at this
        exact meet_self1 (hg _ (List.getElem_mem hk)) this
    unfold remE remL
    rw [hf, if_pos rfl, if_pos rfl, hp]
    exact ⟨rfl, rfl⟩
/-- One more that meets none of those that are there, from the back of a list. -/
theorem back_add {I T : List Wl} (h : Apart I) (hg : ∀ x ∈ I, GoodW x) {i : Nat} (hi : i < I.length) (hT : T.Perm (I.drop (i + 1))) : addE T I[i] = 0 ∧ (addL T I[i]).Perm (I.drop i) := by
  have he : addE T I[i] = 0 := add_ok_of (hg _ (List.getElem_mem hi)) (fun x hx => by
    have hx2 := hT.mem_iff.1 hx
    obtain ⟨j, hj, rfl⟩ := List.mem_drop_iff_getElem.1 hx2
    exact apart_iff h (by omega) hi (by omega))
  refine ⟨he, (addL_perm he).trans ?_⟩
  rw [← List.getElem_cons_drop hi]
  exact hT.cons _
end Go.Proofs.Ytnocdecimcpkfaa

namespace Go.Proofs.Ytnocdecimcpkfaa
open Go.RowKit Go.Sort Go.Lib

/-- Two sets and a row of the call's own (n: what lay there at its beginning). -/
structure Both (w wr : World) (sb tb : Nat) (vs vt vr : Value) (Ls Lt In : List Wl) : Prop where
  S : SetAt wr sb vs Ls
  T : SetAt wr tb vt Lt
  R : WRow wr w.heap.size vr In
  st : ∀ k, Foot sb vs k → ¬ Foot tb vt k
  sr : ∀ g, vr.ownBlock = some g → ¬ Foot sb vs g
  tr : ∀ g, vr.ownBlock = some g → ¬ Foot tb vt g
  slo : ∀ k, Foot sb vs k → w.heap.size ≤ k
  tlo : ∀ k, Foot tb vt k → w.heap.size ≤ k
  hw : Below w.heap.size w wr
theorem foot_lt {w : World} {sb : Nat} {v : Value} {L : List Wl} (S : SetAt w sb v L) : ∀ k, Foot sb v k → k < w.heap.size := fun k h => by
  rcases h with h | h
  · rw [h]; exact S.box.lt
  · exact (S.row.lt k h).2
theorem foot_step {sb n : Nat} {v v' : Value} (hf : Fresh v v' n) : ∀ k, Foot sb v' k → Foot sb v k ∨ n ≤ k := fun k h => by
  rcases h with h | h
  · exact .inl (.inl h)
  · rcases hf k h with h | h
    · exact .inl (.inr h)
    · exact .inr h
variable {w wr w' : World} {sb tb : Nat} {vs vt vr v' : Value} {Ls Lt In L' : List Wl}
theorem Both.ext (B : Both w wr sb tb vs vt vr Ls Lt In) (hb : Below wr.heap.size wr w') : Both w w' sb tb vs vt vr Ls Lt In :=
  ⟨B.S.ext hb rfl, B.T.ext hb rfl, B.R.ext hb rfl, B.st, B.sr, B.tr, B.slo, B.tlo, B.hw.trans (hb.mono B.hw.size)⟩
theorem Both.alloc (B : Both w wr sb tb vs vt vr Ls Lt In) (o : Obj) : Both w (wr.alloc o) sb tb vs vt vr Ls Lt In := B.ext ((Below.refl _ wr).alloc (Nat.le_refl _) o)
theorem Both.addS (B : Both w wr sb tb vs vt vr Ls Lt In) {n : Nat} (S' : SetAt w' sb v' L') (hf : Frm wr w' (Foot sb vs)) (hs : Fresh vs v' n) (hn : wr.heap.size ≤ n) : Both w w' sb tb v' vt vr L' Lt In := by
  have ht := foot_lt B.T
  have hr := B.R.lt
  refine ⟨S', B.T.keep hf (fun h => B.st _ h (.inl rfl)) (fun g e h => B.st _ h (.inr e)), hf.row B.R (fun g e => B.sr g e), fun k h h2 => ?_, fun g e h => ?_, B.tr, fun k h => ?_, B.tlo, B.hw.trans (hf.below B.slo B.hw.size)⟩
  · rcases foot_step hs k h with h | h
    · exact B.st k h h2
    · have := ht k h2; omega
  · rcases foot_step hs g h with h | h
    · exact B.sr g e h
    · have := (hr g e).2; omega
  · rcases foot_step hs k h with h | h
    · exact B.slo k h
    · have := B.hw.size; omega
theorem Both.addT (B : Both w wr sb tb vs vt vr Ls Lt In) {n : Nat} (T' : SetAt w' tb v' L') (hf : Frm wr w' (Foot tb vt)) (hs : Fresh vt v' n) (hn : wr.heap.size ≤ n) : Both w w' sb tb vs v' vr Ls L' In := by
  have ht := foot_lt B.S
  have hr := B.R.lt
  refine ⟨B.S.keep hf (fun h => B.st _ (.inl rfl) h) (fun g e h => B.st _ (.inr e) h), T', hf.row B.R (fun g e => B.tr g e), fun k h h2 => ?_, B.sr, fun g e h => ?_, B.slo, fun k h => ?_, B.hw.trans (hf.below B.tlo B.hw.size)⟩
  · rcases foot_step hs k h2 with h2 | h2
    · exact B.st k h h2
    · have := ht k h; omega
  · rcases foot_step hs g h with h | h
    · exact B.tr g e h
    · have := (hr g e).2; omega
  · rcases foot_step hs k h with h | h
    · exact B.tlo k h
    · have := B.hw.size; omega
theorem Both.app (B : Both w wr sb tb vs vt vr Ls Lt In) (R' : WRow w' w.heap.size v' L') (hg : wr.grownBy w' vr.ownBlock) (hs : Fresh vr v' wr.heap.size) : Both w w' sb tb vs vt v' Ls Lt L' := by
  have h1 := foot_lt B.S
  have h2 := foot_lt B.T
  have hf : Frm wr w' (fun k => vr.ownBlock = some k) := Frm.of_grown hg fun g e => e
  refine ⟨B.S.keep hf (fun e => B.sr _ e (.inl rfl)) (fun g e e2 => B.sr _ e2 (.inr e)), B.T.keep hf (fun e => B.tr _ e (.inl rfl)) (fun g e e2 => B.tr _ e2 (.inr e)), R', B.st, fun g e h => ?_, fun g e h => ?_, B.slo, B.tlo, B.hw.trans (hf.below (fun k e => (B.R.lt k e).1) B.hw.size)⟩
  · rcases hs g e with e | e
    · exact B.sr g e h
    · have := h1 g h; omega
  · rcases hs g e with e | e
    · exact B.tr g e h
    · have := h2 g h; omega
attribute [local go_sem] rOper rAt rUpon cell_set sg_i64 sg_u64 alloc_cell alloc_frozen
theorem round_eqW {i n : Int} (hn : 0 < n) (hn2 : n ≤ 4294967296) : (wrap64 (i.tmod n + n)).tmod n = i % n := by
  have h1 : 0 ≤ i % n := Int.emod_nonneg i (by omega)
  have h2 : i % n < n := Int.emod_lt_of_pos i hn
  have h3 : i.tmod n = i % n ∨ i.tmod n = i % n - n := by
    have h := @Int.tmod_eq_emod i n
    split at h
    · left; omega
    · right; rw [h]; omega
  have h4 : wrap64 (i.tmod n + n) = i.tmod n + n := by rw [w64]; omega
  rw [h4, Int.tmod_eq_emod_of_nonneg (by omega)]
  rcases h3 with h | h <;> rw [h]
  · rw [Int.add_emod_right]; exact Int.emod_eq_of_lt h1 h2
  · rw [show i % n - n + n = i % n by omega]; exact Int.emod_eq_of_lt h1 h2
theorem round_W {i n : Int} (hn : 0 < n) (hn2 : n ≤ 4294967296) (w : World) :
    Calls Try.prog 31 #[.int .i64 i, .int .i64 n] w fun e w' => e = .returned (.int .i64 (i % n)) ∧ Below w.heap.size w w' := by
  rw [← round_eqW hn hn2]
  have h0 : (n == 0) = false := by simp; omega
  have h1 : n ≠ 0 := by omega
  go_enter Try.func31, Try.ntmps31
  go_wp2
  all_goals go_ret
  all_goals exact ⟨rfl, by go_grown⟩
end Go.Proofs.Ytnocdecimcpkfaa

namespace Go.Proofs.Ytnocdecimcpkfaa
open Go.RowKit Go.Sort Go.ChangeShapes Go.WideShapes Go.ChangeAt
section
variable {H : Type} {enc : TypeId × Value → H} {w : World} {base : Nat → Bool} {spare : Bool}
theorem trod_ptW {b0 : Nat} {fuel : Nat} {u v : Value} {y : DataW H × List MemPlace} (h : DataW.trod enc Try.prog w b0 base spare fuel 33 [u, v] = some y) :
    ∃ a b, u = .int .i64 a ∧ v = .int .i64 b := by
  obtain ⟨y0, y1, n, rfl, hl, h0, h1⟩ := trod_struct2 Try.underlying33 h
  rw [show Try.prog.cellsOf 3 = 1 by kernel_rfl] at h0 h1
  simp only [List.drop_zero, List.take_succ_cons, List.take_zero, List.drop_succ_cons] at h0 h1
  obtain ⟨a, ha, rfl, wa⟩ := DataW.trod_int Try.underlying3 h0
  obtain ⟨b, hb, rfl, wb⟩ := DataW.trod_int Try.underlying3 h1
  simp at ha hb
  exact ⟨a, b, ha, hb⟩
theorem list5 {l : List Value} (h : l.length = 5) : ∃ a b c d e, l = [a, b, c, d, e] := by
  match l, h with
  | [a, b, c, d, e], _ => exact ⟨a, b, c, d, e, rfl⟩
set_option maxRecDepth 100000 in
theorem trod_wal {b0 : Nat} {fuel : Nat} {cs : List Value} {y : DataW H × List MemPlace} (hl : cs.length = 5) (hf : DataW.trod enc Try.prog w b0 base spare fuel 35 cs = some y) :
    ∃ T : Wl, cs = cW T := by
  obtain ⟨c0, c1, c2, c3, c4, hc⟩ := list5 hl
  subst hc
  obtain ⟨y0, y1, y2, n, hx, _, h0, h1, h2⟩ := Deep.trod_struct3 Try.underlying35 hf
  have e2 : Try.prog.cellsOf 33 = 2 := by kernel_rfl
  have e1 : Try.prog.cellsOf 3 = 1 := by kernel_rfl
  simp only [e1, e2] at h0 h1 h2
  simp only [List.drop_zero, List.take_succ_cons, List.take_zero, List.drop_succ_cons] at h0 h1 h2
  obtain ⟨a0, a1, rfl, rfl⟩ := trod_ptW h0
  obtain ⟨a2, a3, rfl, rfl⟩ := trod_ptW h1
  obtain ⟨a4, h4, rfl, _⟩ := DataW.trod_int Try.underlying3 h2
  simp at h4
  subst h4
  exact ⟨⟨⟨a0, a1⟩, ⟨a2, a3⟩, a4⟩, rfl⟩
set_option maxRecDepth 100000 in
theorem open_rowW {r : Reach} {b0 b1 : Nat} {v : Value} {d : DataW H} {p : List MemPlace} (hv : Value.okWide Try.prog w r b1 22 v) (h : DataW.Trod enc Try.prog w b0 base spare 22 v d p) :
    ∃ (a : Option Addr) (n cap : Nat) (L : List Wl), v = .slice a n cap ∧ L.length = n ∧ RowAt cW 5 w a L := by
  obtain ⟨a0, n0, k0, rfl⟩ := okWide_slice Try.underlying22 hv
  obtain ⟨fuel, hf⟩ := h
  simp only [Value.cells] at hf
  rcases Deep.open_slice Try.underlying22 hf with ⟨hcs, _⟩ | ⟨a, len, cap, m, n, D, Pl, hcs, hb, hl, hm, hmm, hx, hi⟩
  · simp only [List.cons.injEq, Value.slice.injEq, and_true] at hcs
    obtain ⟨rfl, rfl, rfl⟩ := hcs
    exact ⟨none, 0, 0, [], rfl, rfl, fun j x hx => (by simp at hx)⟩
  · simp only [List.cons.injEq, Value.slice.injEq, and_true] at hcs
    obtain ⟨rfl, rfl, rfl⟩ := hcs
    have hlm : n0 ≤ m := by rw [hmm]; split <;> omega
    have each : ∀ i, i < n0 → ∃ T : Wl, ∀ j u, (cW T)[j]? = some u → w.cell? ((a.add (i * 5)).add j) = some u := fun i hin => by
      obtain ⟨cs', h1, h2⟩ := hi i (by omega)
      rw [show Try.prog.cellsOf 35 = 5 by kernel_rfl] at h1
      obtain ⟨_, hlen, hcell⟩ := World.cells?_some h1
      obtain ⟨T, rfl⟩ := trod_wal hlen h2
      refine ⟨T, fun j u hu => ?_⟩
      rw [hcell j (by have := (List.getElem?_eq_some_iff.1 hu).1; rwa [hlen] at this)]; exact hu
    obtain ⟨f, hf2⟩ := Deep.choose_lt each
    refine ⟨some a, n0, k0, (List.range n0).map f, rfl, by simp, fun j x hx => ?_⟩
    rw [List.getElem?_map] at hx
    obtain ⟨i, hi1, rfl⟩ := Option.map_eq_some_iff.1 hx
    have hj : j < n0 ∧ i = j := by
      obtain ⟨h1, h2⟩ := List.getElem?_eq_some_iff.1 hi1
      simp at h1 h2; exact ⟨h1, h2.symm⟩
    obtain ⟨hj, rfl⟩ := hj
    have hc := hf2 i hj
    refine ⟨a, rfl, ?_, hc⟩
    have h4 := hc 0 _ rfl
    unfold World.cell? at h4
    rw [addr_block, addr_block] at h4
    rcases Nat.lt_or_ge a.block w.heap.size with h' | h'
    · exact h'
    · simp [Array.getElem?_eq_none h'] at h4
end
end Go.Proofs.Ytnocdecimcpkfaa

namespace Go.Proofs.Ytnocdecimcpkfaa
open Go.RowKit Go.Sort Go.ChangeShapes Go.WideShapes Go.ChangeAt

section
variable {H : Type} {enc : TypeId × Value → H} {P : Program} {w : World} {base : Nat} {spare : Nat → Bool} {held : Bool}
theorem trodAll_five {t0 t1 t2 t3 t4 : TypeId} {args : Array Value} {ds : List (DataW H)} {ps : List MemPlace} (h : DataW.TrodAll enc P w base spare held [t0, t1, t2, t3, t4] args.toList ds ps) :
    ∃ v0 v1 v2 v3 v4 d0 d1 d2 d3 d4 q0 q1 q2 q3 q4, args = #[v0, v1, v2, v3, v4] ∧ ds = [d0, d1, d2, d3, d4] ∧ ps = q0 ++ (q1 ++ (q2 ++ (q3 ++ q4))) ∧ DataW.Trod enc P w base spare held t0 v0 d0 q0 ∧ DataW.Trod enc P w base spare held t1 v1 d1 q1 ∧ DataW.Trod enc P w base spare held t2 v2 d2 q2 ∧ DataW.Trod enc P w base spare held t3 v3 d3 q3 ∧ DataW.Trod enc P w base spare held t4 v4 d4 q4 := by
  obtain ⟨v0, vs0, d0, ds0, q0, r0, hargs, rfl, rfl, h0, k0⟩ := trodAll_cons h
  obtain ⟨v1, vs1, d1, ds1, q1, r1, rfl, rfl, rfl, h1, k1⟩ := trodAll_cons k0
  obtain ⟨v2, vs2, d2, ds2, q2, r2, rfl, rfl, rfl, h2, k2⟩ := trodAll_cons k1
  obtain ⟨v3, vs3, d3, ds3, q3, r3, rfl, rfl, rfl, h3, k3⟩ := trodAll_cons k2
  obtain ⟨v4, vs4, d4, ds4, q4, r4, rfl, rfl, rfl, h4, k4⟩ := trodAll_cons k3
  obtain ⟨rfl, rfl, rfl⟩ := trodAll_nil k4
  exact ⟨v0, v1, v2, v3, v4, d0, d1, d2, d3, d4, q0, q1, q2, q3, q4, by cases args; simp_all, rfl, by simp, h0, h1, h2, h3, h4⟩
theorem trodAll_mk5 {t0 t1 t2 t3 t4 : TypeId} {v0 v1 v2 v3 v4 : Value} {d0 d1 d2 d3 d4 : DataW H} {q0 q1 q2 q3 q4 : List MemPlace} (h0 : DataW.Trod enc P w base spare held t0 v0 d0 q0) (h1 : DataW.Trod enc P w base spare held t1 v1 d1 q1) (h2 : DataW.Trod enc P w base spare held t2 v2 d2 q2) (h3 : DataW.Trod enc P w base spare held t3 v3 d3 q3) (h4 : DataW.Trod enc P w base spare held t4 v4 d4 q4) :
    DataW.TrodAll enc P w base spare held [t0, t1, t2, t3, t4] [v0, v1, v2, v3, v4] [d0, d1, d2, d3, d4] (q0 ++ (q1 ++ (q2 ++ (q3 ++ q4)))) := ⟨q0, _, h0, trodAll_mk4 h1 h2 h3 h4, rfl⟩
theorem trodAll_six {t0 t1 t2 t3 t4 t5 : TypeId} {args : Array Value} {ds : List (DataW H)} {ps : List MemPlace} (h : DataW.TrodAll enc P w base spare held [t0, t1, t2, t3, t4, t5] args.toList ds ps) :
    ∃ v0 v1 v2 v3 v4 v5 d0 d1 d2 d3 d4 d5 q0 q1 q2 q3 q4 q5, args = #[v0, v1, v2, v3, v4, v5] ∧ ds = [d0, d1, d2, d3, d4, d5] ∧ ps = q0 ++ (q1 ++ (q2 ++ (q3 ++ (q4 ++ q5)))) ∧ DataW.Trod enc P w base spare held t0 v0 d0 q0 ∧ DataW.Trod enc P w base spare held t1 v1 d1 q1 ∧ DataW.Trod enc P w base spare held t2 v2 d2 q2 ∧ DataW.Trod enc P w base spare held t3 v3 d3 q3 ∧ DataW.Trod enc P w base spare held t4 v4 d4 q4 ∧ DataW.Trod enc P w base spare held t5 v5 d5 q5 := by
  obtain ⟨v0, vs0, d0, ds0, q0, r0, hargs, rfl, rfl, h0, k0⟩ := trodAll_cons h
  obtain ⟨v1, vs1, d1, ds1, q1, r1, rfl, rfl, rfl, h1, k1⟩ := trodAll_cons k0
  obtain ⟨v2, vs2, d2, ds2, q2, r2, rfl, rfl, rfl, h2, k2⟩ := trodAll_cons k1
  obtain ⟨v3, vs3, d3, ds3, q3, r3, rfl, rfl, rfl, h3, k3⟩ := trodAll_cons k2
  obtain ⟨v4, vs4, d4, ds4, q4, r4, rfl, rfl, rfl, h4, k4⟩ := trodAll_cons k3
  obtain ⟨v5, vs5, d5, ds5, q5, r5, rfl, rfl, rfl, h5, k5⟩ := trodAll_cons k4
  obtain ⟨rfl, rfl, rfl⟩ := trodAll_nil k5
  exact ⟨v0, v1, v2, v3, v4, v5, d0, d1, d2, d3, d4, d5, q0, q1, q2, q3, q4, q5, by cases args; simp_all, rfl, by simp, h0, h1, h2, h3, h4, h5⟩
theorem trodAll_mk6 {t0 t1 t2 t3 t4 t5 : TypeId} {v0 v1 v2 v3 v4 v5 : Value} {d0 d1 d2 d3 d4 d5 : DataW H} {q0 q1 q2 q3 q4 q5 : List MemPlace} (h0 : DataW.Trod enc P w base spare held t0 v0 d0 q0) (h1 : DataW.Trod enc P w base spare held t1 v1 d1 q1) (h2 : DataW.Trod enc P w base spare held t2 v2 d2 q2) (h3 : DataW.Trod enc P w base spare held t3 v3 d3 q3) (h4 : DataW.Trod enc P w base spare held t4 v4 d4 q4) (h5 : DataW.Trod enc P w base spare held t5 v5 d5 q5) :
    DataW.TrodAll enc P w base spare held [t0, t1, t2, t3, t4, t5] [v0, v1, v2, v3, v4, v5] [d0, d1, d2, d3, d4, d5] (q0 ++ (q1 ++ (q2 ++ (q3 ++ (q4 ++ q5))))) := ⟨q0, _, h0, ⟨q1, _, h1, trodAll_mk4 h2 h3 h4 h5, rfl⟩, rfl⟩
theorem trodAll_seven {t0 t1 t2 t3 t4 t5 t6 : TypeId} {args : Array Value} {ds : List (DataW H)} {ps : List MemPlace} (h : DataW.TrodAll enc P w base spare held [t0, t1, t2, t3, t4, t5, t6] args.toList ds ps) :
    ∃ v0 v1 v2 v3 v4 v5 v6 d0 d1 d2 d3 d4 d5 d6 q0 q1 q2 q3 q4 q5 q6, args = #[v0, v1, v2, v3, v4, v5, v6] ∧ ds = [d0, d1, d2, d3, d4, d5, d6] ∧ ps = q0 ++ (q1 ++ (q2 ++ (q3 ++ (q4 ++ (q5 ++ q6))))) ∧ DataW.Trod enc P w base spare held t0 v0 d0 q0 ∧ DataW.Trod enc P w base spare held t1 v1 d1 q1 ∧ DataW.Trod enc P w base spare held t2 v2 d2 q2 ∧ DataW.Trod enc P w base spare held t3 v3 d3 q3 ∧ DataW.Trod enc P w base spare held t4 v4 d4 q4 ∧ DataW.Trod enc P w base spare held t5 v5 d5 q5 ∧ DataW.Trod enc P w base spare held t6 v6 d6 q6 := by
  obtain ⟨v0, vs0, d0, ds0, q0, r0, hargs, rfl, rfl, h0, k0⟩ := trodAll_cons h
  obtain ⟨v1, vs1, d1, ds1, q1, r1, rfl, rfl, rfl, h1, k1⟩ := trodAll_cons k0
  obtain ⟨v2, vs2, d2, ds2, q2, r2, rfl, rfl, rfl, h2, k2⟩ := trodAll_cons k1
  obtain ⟨v3, vs3, d3, ds3, q3, r3, rfl, rfl, rfl, h3, k3⟩ := trodAll_cons k2
  obtain ⟨v4, vs4, d4, ds4, q4, r4, rfl, rfl, rfl, h4, k4⟩ := trodAll_cons k3
  obtain ⟨v5, vs5, d5, ds5, q5, r5, rfl, rfl, rfl, h5, k5⟩ := trodAll_cons k4
  obtain ⟨v6, vs6, d6, ds6, q6, r6, rfl, rfl, rfl, h6, k6⟩ := trodAll_cons k5
  obtain ⟨rfl, rfl, rfl⟩ := trodAll_nil k6
  exact ⟨v0, v1, v2, v3, v4, v5, v6, d0, d1, d2, d3, d4, d5, d6, q0, q1, q2, q3, q4, q5, q6, by cases args; simp_all, rfl, by simp, h0, h1, h2, h3, h4, h5, h6⟩
theorem trodAll_mk7 {t0 t1 t2 t3 t4 t5 t6 : TypeId} {v0 v1 v2 v3 v4 v5 v6 : Value} {d0 d1 d2 d3 d4 d5 d6 : DataW H} {q0 q1 q2 q3 q4 q5 q6 : List MemPlace} (h0 : DataW.Trod enc P w base spare held t0 v0 d0 q0) (h1 : DataW.Trod enc P w base spare held t1 v1 d1 q1) (h2 : DataW.Trod enc P w base spare held t2 v2 d2 q2) (h3 : DataW.Trod enc P w base spare held t3 v3 d3 q3) (h4 : DataW.Trod enc P w base spare held t4 v4 d4 q4) (h5 : DataW.Trod enc P w base spare held t5 v5 d5 q5) (h6 : DataW.Trod enc P w base spare held t6 v6 d6 q6) :
    DataW.TrodAll enc P w base spare held [t0, t1, t2, t3, t4, t5, t6] [v0, v1, v2, v3, v4, v5, v6] [d0, d1, d2, d3, d4, d5, d6] (q0 ++ (q1 ++ (q2 ++ (q3 ++ (q4 ++ (q5 ++ q6)))))) := ⟨q0, _, h0, ⟨q1, _, h1, ⟨q2, _, h2, trodAll_mk4 h3 h4 h5 h6, rfl⟩, rfl⟩, rfl⟩
end
end Go.Proofs.Ytnocdecimcpkfaa
