/- Put together: WalN, WalO, WalP, WalQ. -/
import Derived.Test.YtnocdecimcpkfaaRows
import Derived.Test.YtnocdecimcpkfaaPut20
import Derived.Test.YtnocdecimcpkfaaPut1
import Derived.WalkKit
import Derived.WalkSpells
import Derived.WalkLawsBesides
import Derived.Laws.Externs
import Derived.Deep.QuietTactic
import Derived.BigQuiet
import Derived.Lib.Hide
import Derived.Handy
import Derived.OwnWalk
import Derived.LoopN
import Derived.RegionTactic
namespace Go.Proofs.Ytnocdecimcpkfaa
open Go.RowKit Go.Sort
attribute [local go_sem] rOper rAt rUpon cell_set sg_i64 sg_u64 alloc_cell alloc_frozen
attribute [local go_sem 10000] pt_eql pt_neq wal_eql wal_neq
attribute [local irreducible] rWalk

theorem rem_nil (a b : Pt) (w : World) :
    Calls Try.prog 12 #[.pointer none, .agg #[.int .i64 a.x, .int .i64 a.y], .agg #[.int .i64 b.x, .int .i64 b.y]] w fun e w' => e = .returned (.int .i64 16) ∧ Below w.heap.size w w' := by
  go_enter Try.func12, Try.ntmps12
  have c1 := find_nil a b
  go_wp2_with fail
  refine at_call fun W1 hW => ?_
  have Ba : Box W1 (w.heap.size) [.int .i64 a.x, .int .i64 a.y] 33 := by rw [hW]; exact (Box.new rfl).old _
  have Bb : Box W1 (w.heap.size + 1) [.int .i64 b.x, .int .i64 b.y] 33 := by rw [hW]; exact Box.new (by simp)
  have hw : Below w.heap.size w W1 := by rw [hW]; go_grown
  clear hW
  refine (c1 _).mono ?_
  rintro e w2 ⟨rfl, hb⟩
  replace Ba := Ba.ext hb rfl
  replace Bb := Bb.ext hb rfl
  replace hw := hw.trans (hb.mono hw.size)
  clear hb
  obtain ⟨xa, ya, za, va⟩ := Ba.facts
  obtain ⟨xb, yb, zb, vb⟩ := Bb.facts
  go_wp2
  go_ret
  exact ⟨rfl, by have hl := hw.size; go_grown⟩

theorem rem_0 (sb : Nat) (a0 : Option Addr) (c n : Nat) (L : List Wl) (a b : Pt) (hf : (fnd L (posW L (lo2 a b) (hi2 a b)) (lo2 a b) (hi2 a b)) = false) (w : World) (S : SetRd w sb a0 c n L) :
    Calls Try.prog 12 #[.pointer (some ⟨sb, 0, none⟩), .agg #[.int .i64 a.x, .int .i64 a.y], .agg #[.int .i64 b.x, .int .i64 b.y]] w fun e w' => e = .returned (.int .i64 16) ∧ Below w.heap.size w w' := by
  go_enter Try.func12, Try.ntmps12
  have hsb := S.box.lt
  go_wp2_with fail
  refine at_call fun W1 hW => ?_
  have Ba : Box W1 (w.heap.size) [.int .i64 a.x, .int .i64 a.y] 33 := by rw [hW]; exact (Box.new rfl).old _
  have Bb : Box W1 (w.heap.size + 1) [.int .i64 b.x, .int .i64 b.y] 33 := by rw [hW]; exact Box.new (by simp)
  have hw : Below w.heap.size w W1 := by rw [hW]; go_grown
  clear hW
  have cf := find_any sb a0 c n L a b W1 (S.ext hw rfl)
  rw [hf] at cf
  refine (cf).mono ?_
  rintro e w2 ⟨rfl, hb⟩
  replace Ba := Ba.ext hb rfl
  replace Bb := Bb.ext hb rfl
  replace hw := hw.trans (hb.mono hw.size)
  clear hb
  obtain ⟨xa, ya, za, va⟩ := Ba.facts
  obtain ⟨xb, yb, zb, vb⟩ := Bb.facts
  go_wp2
  go_ret
  exact ⟨rfl, by have hl := hw.size; go_grown⟩

theorem rem_end {w w4 wq : World} {sb : Nat} {v v' : Value} {L L' : List Wl} (S : SetAt w sb v L) (hw : Below w.heap.size w w4) (hgr : w4.grownBy wq v.ownBlock) (hf : Fresh v v' w4.heap.size) (hown : WRow wq 0 v' L') :
    Box (wq.setCell ⟨sb, 0, none⟩ v') sb [v'] 64 ∧ WRow (wq.setCell ⟨sb, 0, none⟩ v') 0 v' L' ∧ Frm w (wq.setCell ⟨sb, 0, none⟩ v') (Foot sb v) ∧ Fresh v v' w.heap.size ∧ v'.ownBlock ≠ some sb := by
  have hs := hw.size
  have hsb := S.box.lt
  have hne : v'.ownBlock ≠ some sb := fun e => by
    rcases hf _ e with h | h
    · exact S.ne h
    · omega
  have BQ : Box wq sb [v] 64 := Box.grownBy (S.box.ext hw rfl) hgr (fun e => S.ne e.symm)
  have f1 : Frm w wq (Foot sb v) := (Frm.of_below hw).trans (Frm.of_grown hgr fun g e => .inr e)
  refine ⟨BQ.set 0 v', ((Frm.refl wq (· = sb)).setCell ⟨sb, 0, none⟩ rfl v').row hown (fun g e => fun h => hne (by rw [e, h])), f1.setCell ⟨sb, 0, none⟩ (.inl rfl) v', fun g e => ?_, hne⟩
  rcases hf g e with h | h
  · exact .inl h
  · exact .inr (by omega)
set_option maxHeartbeats 1000000 in
theorem rem_1 (sb : Nat) (a0 : Option Addr) (c : Nat) (v : Value) (L : List Wl) (hv : v = .slice a0 L.length c) (a b : Pt) (hf : (fnd L (posW L (lo2 a b) (hi2 a b)) (lo2 a b) (hi2 a b)) = true) (m : Nat) (hm0 : posW L (lo2 a b) (hi2 a b) = m) (hm : m < L.length) (w : World) (S : SetAt w sb v L) :
    Calls Try.prog 12 #[.pointer (some ⟨sb, 0, none⟩), .agg #[.int .i64 a.x, .int .i64 a.y], .agg #[.int .i64 b.x, .int .i64 b.y]] w fun e w' => ∃ v', e = .returned (.int .i64 0) ∧ Box w' sb [v'] 64 ∧ WRow w' 0 v' (L.take m ++ L.drop (m + 1)) ∧ Frm w w' (Foot sb v) ∧ Fresh v v' w.heap.size ∧ v'.ownBlock ≠ some sb := by
  go_enter Try.func12, Try.ntmps12
  have hsb := S.box.lt
  go_wp2_with fail
  refine at_call fun W1 hW => ?_
  have Ba : Box W1 (w.heap.size) [.int .i64 a.x, .int .i64 a.y] 33 := by rw [hW]; exact (Box.new rfl).old _
  have Bb : Box W1 (w.heap.size + 1) [.int .i64 b.x, .int .i64 b.y] 33 := by rw [hW]; exact Box.new (by simp)
  have hw : Below w.heap.size w W1 := by rw [hW]; go_grown
  clear hW
  have SS := S.rdx v c a0 hv
  have cf := find_any sb a0 c L.length L a b W1 (SS.ext hw rfl)
  rw [hf, hm0] at cf
  clear hv SS
  refine (cf).mono ?_
  rintro e w2 ⟨rfl, hb⟩
  replace Ba := Ba.ext hb rfl
  replace Bb := Bb.ext hb rfl
  replace hw := hw.trans (hb.mono hw.size)
  clear hb
  have BS := S.box.ext hw rfl
  have hown := S.row.ext hw rfl
  have hne := S.ne
  have e1 : IntKind.i64.wrap ((m : Int) + 1) = (m : Int) + 1 := by rw [IntKind.wrap_i64]; have := S.le; omega
  have e2 : wrap64 ((m : Int) + 1) = (m : Int) + 1 := by rw [w64]; have := S.le; omega
  obtain ⟨xa, ya, za, va⟩ := Ba.facts
  obtain ⟨xb, yb, zb, vb⟩ := Bb.facts
  obtain ⟨xS, yS, zS, vS⟩ := BS.facts
  go_wp2_with fail
  refine (del_any 0 v m L _ hm hown).mono ?_
  rintro e wq ⟨v', rfl, hown', hgr, hfr⟩
  have BQ := Box.grownBy BS hgr (fun e => hne e.symm)
  obtain ⟨q0, q1, q2, q3⟩ := BQ.facts
  obtain ⟨aq, nq, cq, rfl⟩ := hown'.form
  go_wp2
  go_ret
  obtain ⟨r1, r2, r3, r4, r5⟩ := rem_end S hw hgr hfr hown'
  exact ⟨_, rfl, r1, r2, r3, r4, r5⟩

def remE (L : List Wl) (p q : Pt) : Int := if fnd L (posW L p q) p q = true then 0 else 16
def remL (L : List Wl) (p q : Pt) : List Wl := if fnd L (posW L p q) p q = true then L.take (posW L p q) ++ L.drop (posW L p q + 1) else L
theorem cut_sub (L : List Wl) (m : Nat) : (L.take m ++ L.drop (m + 1)).Sublist L := by
  induction L generalizing m with
  | nil => simp
  | cons x L ih =>
    cases m with
    | zero => simp
    | succ m => simpa using ih m
theorem rem_any (sb : Nat) (v : Value) (L : List Wl) (a b : Pt) (w : World) (S : SetAt w sb v L) :
    Calls Try.prog 12 #[.pointer (some ⟨sb, 0, none⟩), .agg #[.int .i64 a.x, .int .i64 a.y], .agg #[.int .i64 b.x, .int .i64 b.y]] w fun e w' => ∃ v', e = .returned (.int .i64 (remE L (lo2 a b) (hi2 a b))) ∧ SetAt w' sb v' (remL L (lo2 a b) (hi2 a b)) ∧ Frm w w' (Foot sb v) ∧ Fresh v v' w.heap.size := by
  unfold remE remL
  obtain ⟨a0, c, hv, R⟩ := S.rd
  have hK : ∀ x ∈ L, 0 < x.K := fun x hx => by have := (S.good x hx).k; omega
  cases hf : (fnd L (posW L (lo2 a b) (hi2 a b)) (lo2 a b) (hi2 a b)) with
  | false =>
    rw [if_neg (by simp), if_neg (by simp)]
    refine (rem_0 sb a0 c L.length L a b hf w R).mono ?_
    rintro e w' ⟨rfl, hb⟩
    exact ⟨v, rfl, S.ext hb rfl, Frm.of_below hb, fun g e => .inl e⟩
  | true =>
    rw [if_pos rfl, if_pos rfl]
    obtain ⟨hm, _⟩ := fnd_true S.ris hf hK
    refine (rem_1 sb a0 c v L hv a b hf _ rfl hm w S).mono ?_
    rintro e w' ⟨v', rfl, h1, h2, h3, h4, h5⟩
    have hs := cut_sub L (posW L (lo2 a b) (hi2 a b))
    exact ⟨v', rfl, ⟨h1, h2, h5, Nat.le_trans hs.length_le S.le, S.ris.sublist hs, fun x hx => S.good x (hs.subset hx)⟩, h3, h4⟩
end Go.Proofs.Ytnocdecimcpkfaa

namespace Go.Proofs.Ytnocdecimcpkfaa
open Go.RowKit Go.Sort Go.Lib
attribute [local go_sem] rOper rAt rUpon cell_set sg_i64 sg_u64 alloc_cell alloc_frozen
attribute [local go_sem 10000] pt_eql pt_neq wal_eql wal_neq
attribute [local irreducible] rWalk

def adjB (x y : Wl) : Bool := decide (x.A = y.A) && decide (x.B = y.B)
theorem adjB_eq (x y : Wl) : adjB x y = (peqI x.A.x x.A.y y.A.x y.A.y && peqI x.B.x x.B.y y.B.x y.B.y) := by rw [peqI_dec, peqI_dec]; rfl
set_option maxHeartbeats 1000000 in
theorem twice_any (a : Option Addr) (c : Nat) (L : List Wl) (hL : L.length ≤ 1000000) (b : Bool) (hb : b = true ↔ ∃ (i : Nat) (h : i + 1 < L.length), adjB L[i] L[i + 1] = true) (w : World) (h : RowAt cW 5 w a L) :
    Calls Try.prog 36 #[.slice a L.length c] w fun e w' => e = .returned (.bool b) ∧ Below w.heap.size w w' := by
  obtain ⟨n, hn1⟩ : ∃ n, L.length = n := ⟨_, rfl⟩
  have hn : n ≤ 1000000 := hn1 ▸ hL
  have H1 := Lib.hid hn1
  have HB := Lib.hid hb
  rw [hn1]
  clear hL hb hn1
  go_enter Try.func36, Try.ntmps36
  go_wp2
  go_loopw [3] (fun vi wr => ∃ k : Nat, vi = .int .i64 ((k : Int) + 1) ∧ (k = 0 ∨ k + 1 ≤ n) ∧ Hid (∀ (i : Nat) (hi : i + 1 < L.length), i < k → adjB L[i] L[i + 1] = false) ∧ Below w.heap.size w wr) (fun vi _ => n - (intOf vi).toNat)
  case atStart => exact ⟨0, by first | rfl | simp, .inl rfl, Lib.hid (fun i _ h => absurd h (Nat.not_lt_zero _)), Below.refl _ _⟩
  case round =>
    obtain ⟨k, rfl, hk, HF, hwr⟩ := hrel
    by_cases hlt : k + 1 < n
    · have hk0 : k < L.length := by rw [H1.out]; omega
      have hk1 : k + 1 < L.length := by rw [H1.out]; exact hlt
      obtain ⟨ad1, A1, ea1, eA1, hA1⟩ := (h.ext hwr rfl).five (j := k) hk0
      obtain ⟨ad2, A2, ea2, eA2, hA2⟩ := (h.ext hwr rfl).five (j := k + 1) hk1
      have HY : Hid (adjB L[k] L[k + 1] = (peqI L[k].A.x L[k].A.y L[k + 1].A.x L[k + 1].A.y && peqI L[k].B.x L[k].B.y L[k + 1].B.x L[k + 1].B.y)) := Lib.hid (adjB_eq _ _)
      have HYes : adjB L[k] L[k + 1] = true → b = true := fun e => HB.out.2 ⟨k, hk1, e⟩
      have HNo : adjB L[k] L[k + 1] = false → ∀ (i : Nat) (hi : i + 1 < L.length), i < k + 1 → adjB L[i] L[i + 1] = false := fun e i hi hik => by
        by_cases ek : i = k
        · subst ek; exact e
        · exact HF.out i hi (by omega)
      have HYH := Lib.hid HYes
      have HNH := Lib.hid HNo
      clear HYes HNo
      generalize adjB L[k] L[k + 1] = z at *
      generalize L[k] = X at *
      generalize L[k + 1] = Y at *
      subst ea1
      simp only [Option.some.injEq] at ea2
      subst ea2
      obtain ⟨s0, s1, s2, s3, s4⟩ := hA1.cells
      obtain ⟨r0, r1, r2, r3, r4⟩ := hA2.cells
      have q1 : IntKind.i64.wrap ((k : Int) + 1 - 1) = k := by rw [IntKind.wrap_i64]; omega
      have q1b : IntKind.i64.wrap (k : Int) = k := by rw [IntKind.wrap_i64]; omega
      have q2 : (k : Int) < (n : Int) := by omega
      have q3 : (k : Int) + 1 < (n : Int) := by omega
      have q4 : ((k : Int) + 1).toNat = k + 1 := by omega
      have q5 : k < n := by omega
      have q6 : (0 : Int) ≤ (k : Int) + 1 := by omega
      cases e1 : peqI X.A.x X.A.y Y.A.x Y.A.y with
      | false =>
        have HZ : Hid (z = false) := Lib.hid (by rw [HY.out, e1]; rfl)
        clear HY hA1 hA2
        go_wp2_with fail
        refine (wp_region_tail 25 (by kernel_rfl) (by kernel_rfl) (C := fun w' => ∃ p : Regrown, w' = grow (redrawn wr p.d) p.os) (fun w' h => regrown_of_below h) ?_)
        simp only [List.take_succ_cons, List.take_zero, List.drop_succ_cons, List.drop_zero]
        repeat (first | (refine rWalk_skip (Eq.refl false) ?_; simp only [Act.put, List.setIfInBounds_toArray, List.set_cons_succ, List.set_cons_zero]) | (refine rWalk_step (fun K hK => ?_); go_simp; first | (refine hK _ ?_; clear hK K) | (apply Exists.intro; refine ⟨fun _ => ?_, hK _ ?_⟩; (first | fail); clear hK K)))
        refine rWalk_nil ?_
        intro w2 hb2
        have hw2 := hwr.trans (hb2.mono hwr.size)
        go_wp2
        go_roundw
        case rel => exact ⟨k + 1, by go_num, .inr (by omega), Lib.hid (HNH.out HZ.out), hw2⟩
        case measure => simp [intOf]; omega
      | true =>
        cases e2 : peqI X.B.x X.B.y Y.B.x Y.B.y with
        | false =>
          have HZ : Hid (z = false) := Lib.hid (by rw [HY.out, e1, e2]; rfl)
          clear HY hA1 hA2
          go_wp2_with fail
          refine (wp_region_tail 25 (by kernel_rfl) (by kernel_rfl) (C := fun w' => ∃ p : Regrown, w' = grow (redrawn wr p.d) p.os) (fun w' h => regrown_of_below h) ?_)
          simp only [List.take_succ_cons, List.take_zero, List.drop_succ_cons, List.drop_zero]
          repeat (first | (refine rWalk_skip (Eq.refl false) ?_; simp only [Act.put, List.setIfInBounds_toArray, List.set_cons_succ, List.set_cons_zero]) | (refine rWalk_step (fun K hK => ?_); go_simp; first | (refine hK _ ?_; clear hK K) | (apply Exists.intro; refine ⟨fun _ => ?_, hK _ ?_⟩; (first | fail); clear hK K)))
          refine rWalk_nil ?_
          intro w2 hb2
          have hw2 := hwr.trans (hb2.mono hwr.size)
          go_wp2
          go_roundw
          case rel => exact ⟨k + 1, by go_num, .inr (by omega), Lib.hid (HNH.out HZ.out), hw2⟩
          case measure => simp [intOf]; omega
        | true =>
          have HZ : Hid (z = true) := Lib.hid (by rw [HY.out, e1, e2]; rfl)
          clear HY hA1 hA2
          go_wp2_with fail
          refine (wp_region_tail 25 (by kernel_rfl) (by kernel_rfl) (C := fun w' => ∃ p : Regrown, w' = grow (redrawn wr p.d) p.os) (fun w' h => regrown_of_below h) ?_)
          simp only [List.take_succ_cons, List.take_zero, List.drop_succ_cons, List.drop_zero]
          repeat (first | (refine rWalk_skip (Eq.refl false) ?_; simp only [Act.put, List.setIfInBounds_toArray, List.set_cons_succ, List.set_cons_zero]) | (refine rWalk_step (fun K hK => ?_); go_simp; first | (refine hK _ ?_; clear hK K) | (apply Exists.intro; refine ⟨fun _ => ?_, hK _ ?_⟩; (first | fail); clear hK K)))
          refine rWalk_nil ?_
          intro w2 hb2
          have hw2 := hwr.trans (hb2.mono hwr.size)
          have HT := Lib.hid (HYH.out HZ.out)
          go_wp2
          go_ret
          exact ⟨by rw [HT.out]; rfl, hw2⟩
    · have HT : Hid (b = false) := Lib.hid (by
        cases hb : b with
        | false => rfl
        | true =>
          obtain ⟨i, hi, e⟩ := HB.out.1 hb
          have := HF.out i hi (by rw [H1.out] at hi; omega)
          rw [e] at this; cases this)
      have q3 : ¬ ((k : Int) + 1 < (n : Int)) := by omega
      go_wp2
      go_ret
      exact ⟨by rw [HT.out]; rfl, hwr⟩
end Go.Proofs.Ytnocdecimcpkfaa

namespace Go.Proofs.Ytnocdecimcpkfaa
open Go.RowKit Go.Sort Go.Lib
attribute [local go_sem] rOper rAt rUpon cell_set sg_i64 sg_u64 alloc_cell alloc_frozen
attribute [local go_sem 10000] pt_eql pt_neq wal_eql wal_neq
attribute [local irreducible] rWalk

/-- What is asked of a predicate that is called while the row's block g is stored into. -/
def PredFrm (g : Nat) (lb : Array Value) (p : Wl → Bool) (w : World) (b : Nat) : Prop :=
  ∀ (W : World) (x : Wl), Frm w W (· = b) → Calls Try.prog g (#[.agg (cW x).toArray] ++ lb) W fun e w' => e = .returned (.bool (p x)) ∧ Below W.heap.size W w'
theorem PredFrm.below {g : Nat} {lb : Array Value} {p : Wl → Bool} {w : World} {b : Nat} (h : PredFrm g lb p w b) : PredBelow Try.prog g lb (fun x => .agg (cW x).toArray) p w := fun W x hb =>
  (h W x (Frm.of_below hb)).mono fun _ _ ⟨he, hx⟩ => ⟨he, hb.trans (hx.mono hb.size)⟩
theorem idx_any (p : Wl → Bool) (g : Nat) (lb : Array Value) (eg : ∀ args w, (callFunc g args).run Try.prog w = .ok (.enter g args) w) (a : Option Addr) (c : Nat) (L : List Wl) (hL : L.length ≤ 1000000) (w : World) (h : RowAt cW 5 w a L) (hf : Flat a)
    (hp : PredBelow Try.prog g lb (fun x => .agg (cW x).toArray) p w) (h0 : 0 < L.length) :
    Calls Try.prog 58 #[.slice a L.length c, .func (.func g) #[] lb] w fun e w' => e = .returned (.int .i64 (Lib.idxBy (fun _ y => p y) L default)) ∧ Below w.heap.size w w' := by
  rcases flat_form hf with rfl | ⟨b, off, rfl⟩
  · obtain ⟨ad, h1, _⟩ := h 0 L[0] (List.getElem?_eq_getElem h0); cases h1
  · have hb : b < w.heap.size := by obtain ⟨ad, h1, h2, _⟩ := h 0 L[0] (List.getElem?_eq_getElem h0); cases h1; exact h2
    have hc := AnyQ.slices_IndexFunc idxWl 5 Try.isAgg35 Try.sizeOf35 cW cW_len p g lb eg b off L.length c L w hp (Nat.le_refl _) (by omega) hb (fun j hj i v hv => by
      rw [getElem!_pos L j hj] at hv
      obtain ⟨ad, h1, _, h3⟩ := h j L[j] (List.getElem?_eq_getElem hj)
      cases h1
      have := h3 i v hv
      simpa only [Addr.add_lit] using this)
    change Calls Try.prog 58 _ _ _ at hc
    rwa [List.take_of_length_le (Nat.le_refl _)] at hc
theorem flat_setW (tl : List Value) : ∀ (S : List Wl) (j : Nat) (p : Wl), j < S.length → (((((S.flatMap cW ++ tl).set (j * 5) (.int .i64 p.A.x)).set (j * 5 + 1) (.int .i64 p.A.y)).set (j * 5 + 2) (.int .i64 p.B.x)).set (j * 5 + 3) (.int .i64 p.B.y)).set (j * 5 + 4) (.int .i64 p.K) = (S.set j p).flatMap cW ++ tl
  | q :: S, 0, p, _ => by simp [cW]
  | q :: S, j + 1, p, h => by
    have ih := flat_setW tl S j p (by simpa using h)
    simp only [List.flatMap_cons, cW, List.cons_append, List.nil_append, List.set_cons_succ] at ih ⊢
    rw [show (j + 1) * 5 = j * 5 + 1 + 1 + 1 + 1 + 1 by omega]
    simp only [List.set_cons_succ]
    rw [← ih]
theorem box_putW {w : World} {g : Nat} {S : List Wl} {tl : List Value} (h : Box w g (S.flatMap cW ++ tl) 35) {j : Nat} (hj : j < S.length) (p : Wl) :
    Box (((((w.setCell ⟨g, j * 5, none⟩ (.int .i64 p.A.x)).setCell ⟨g, j * 5 + 1, none⟩ (.int .i64 p.A.y)).setCell ⟨g, j * 5 + 2, none⟩ (.int .i64 p.B.x)).setCell ⟨g, j * 5 + 3, none⟩ (.int .i64 p.B.y)).setCell ⟨g, j * 5 + 4, none⟩ (.int .i64 p.K)) g ((S.set j p).flatMap cW ++ tl) 35 := by
  rw [← flat_setW tl S j p hj]
  exact ((((h.set _ _).set _ _).set _ _).set _ _).set _ _
theorem box_five {w : World} {g : Nat} {S : List Wl} {tl : List Value} (h : Box w g (S.flatMap cW ++ tl) 35) {j : Nat} (hj : j < S.length) :
    w.cell? ⟨g, j * 5, none⟩ = some (.int .i64 S[j].A.x) ∧ w.cell? ⟨g, j * 5 + 1, none⟩ = some (.int .i64 S[j].A.y) ∧ w.cell? ⟨g, j * 5 + 2, none⟩ = some (.int .i64 S[j].B.x) ∧ w.cell? ⟨g, j * 5 + 3, none⟩ = some (.int .i64 S[j].B.y) ∧ w.cell? ⟨g, j * 5 + 4, none⟩ = some (.int .i64 S[j].K) ∧
      w.frozen? ⟨g, j * 5, none⟩ = false ∧ w.frozen? ⟨g, j * 5 + 1, none⟩ = false ∧ w.frozen? ⟨g, j * 5 + 2, none⟩ = false ∧ w.frozen? ⟨g, j * 5 + 3, none⟩ = false ∧ w.frozen? ⟨g, j * 5 + 4, none⟩ = false ∧
      (w.cell? ⟨g, j * 5, none⟩).isSome = true ∧ (w.cell? ⟨g, j * 5 + 1, none⟩).isSome = true ∧ (w.cell? ⟨g, j * 5 + 2, none⟩).isSome = true ∧ (w.cell? ⟨g, j * 5 + 3, none⟩).isSome = true ∧ (w.cell? ⟨g, j * 5 + 4, none⟩).isSome = true := by
  have hf := h.facts
  have e : ∀ i, i < 5 → w.cell? ⟨g, j * 5 + i, none⟩ = (cW S[j])[i]? := fun i hi => by
    rw [hf.1, List.getElem?_append_left (by rw [flatMap_len cW_len]; omega)]
    exact flatMap_get cW_len S j i S[j] (List.getElem?_eq_getElem hj) hi
  have e0 := e 0 (by omega)
  have e1 := e 1 (by omega)
  have e2 := e 2 (by omega)
  have e3 := e 3 (by omega)
  have e4 := e 4 (by omega)
  refine ⟨e0, e1, e2, e3, e4, hf.2.1 _, hf.2.1 _, hf.2.1 _, hf.2.1 _, hf.2.1 _, by rw [show j * 5 = j * 5 + 0 from rfl, e0]; rfl, by rw [e1]; rfl, by rw [e2]; rfl, by rw [e3]; rfl, by rw [e4]; rfl⟩
/-- All of it kept, or one that goes first. -/
theorem first_of (p : Wl → Bool) : ∀ L : List Wl, (∀ x ∈ L, p x = false) ∨ ∃ (k : Nat) (hk : k < L.length), p L[k] = true ∧ ∀ (j : Nat) (hj : j < k), p (L[j]'(by omega)) = false
  | [] => .inl (by simp)
  | x :: L => by
    cases hx : p x with
    | true => exact .inr ⟨0, by simp, hx, fun j hj => absurd hj (Nat.not_lt_zero _)⟩
    | false =>
      rcases first_of p L with h | ⟨k, hk, h1, h2⟩
      · exact .inl (by intro y hy; exact (List.mem_cons.1 hy).elim (fun e => e ▸ hx) (h y))
      · refine .inr ⟨k + 1, by simpa using hk, h1, fun j hj => ?_⟩
        cases j with
        | zero => exact hx
        | succ j => exact h2 j (by omega)
theorem idx_miss (p : Wl → Bool) (L : List Wl) (h : ∀ x ∈ L, p x = false) : Lib.idxBy (fun _ y => p y) L default = -1 := by
  have := Lib.idxBy_miss (fun _ y => p y) L L.length default (fun j hj => by rw [getElem!_pos L j hj]; exact h _ (List.getElem_mem hj))
  rwa [List.take_of_length_le (Nat.le_refl _)] at this
theorem idx_hit (p : Wl → Bool) (L : List Wl) (k : Nat) (hk : k < L.length) (h1 : p L[k] = true) (h2 : ∀ (j : Nat) (hj : j < k), p (L[j]'(by omega)) = false) : Lib.idxBy (fun _ y => p y) L default = k := by
  have := Lib.idxBy_hit (fun _ y => p y) L L.length k default hk (Nat.le_refl _) (by rw [getElem!_pos L k hk]; exact h1) (fun j hj => by rw [getElem!_pos L j (by omega)]; exact h2 j hj)
  rwa [List.take_of_length_le (Nat.le_refl _)] at this
set_option maxHeartbeats 1000000 in
theorem df_none (p : Wl → Bool) (f : Nat) (lb : Array Value) (eg : ∀ args w, (callFunc f args).run Try.prog w = .ok (.enter f args) w) (a : Option Addr) (c : Nat) (L : List Wl) (hL : L.length ≤ 1000000) (hf : Flat a)
    (hno : ∀ x ∈ L, p x = false) (w : World) (h : RowAt cW 5 w a L) (hp : PredBelow Try.prog f lb (fun x => .agg (cW x).toArray) p w) :
    Calls Try.prog 61 #[.slice a L.length c, .func (.func f) #[] lb] w fun e w' => e = .returned (.slice a L.length c) ∧ Below w.heap.size w w' := by
  have c1 : Calls Try.prog 58 #[.slice a L.length c, .func (.func f) #[] lb] w fun e w' => e = .returned (.int .i64 (-1)) ∧ Below w.heap.size w w' := by
    rcases Nat.eq_zero_or_pos L.length with h0 | h0
    · rw [h0]; exact conW_nil a c _ w
    · have := idx_any p f lb eg a c L hL w h hf hp h0
      rwa [idx_miss p L hno] at this
  generalize L.length = n at *
  clear hp h hno
  go_enter Try.func61, Try.ntmps61
  go_wp2_with fail
  refine c1.mono ?_
  rintro e w1 ⟨rfl, hb⟩
  go_wp2
  go_ret
  exact ⟨rfl, hb⟩
set_option maxHeartbeats 2000000 in
theorem df_some (p : Wl → Bool) (f : Nat) (lb : Array Value) (eg : ∀ args w, (callFunc f args).run Try.prog w = .ok (.enter f args) w) (g n c : Nat) (L : List Wl) (tl : List Value) (hn : L.length = n) (hL : n ≤ 1000000) (hc : n ≤ c) (hc2 : c ≤ maxLen)
    (k0 : Nat) (hk0 : k0 < n) (h1 : p (L[k0]'(by omega)) = true) (h2 : ∀ (j : Nat) (hj : j < k0), p (L[j]'(by omega)) = false) (w : World) (hg : Box w g (L.flatMap cW ++ tl) 35) (hr : RowAt cW 5 w (some ⟨g, 0, none⟩) L) (hp : PredFrm f lb p w g) :
    Calls Try.prog 61 #[.slice (some ⟨g, 0, none⟩) n c, .func (.func f) #[] lb] w fun e w' => ∃ m, m ≤ n ∧ e = .returned (.slice (some ⟨g, 0, none⟩) m c) ∧ m = (L.filter fun x => !p x).length ∧ Box w' g ((L.filter fun x => !p x).flatMap cW ++ (zN (n - m) ++ tl)) 35 ∧ Frm w w' (· = g) := by
  have c1 : Calls Try.prog 58 #[.slice (some ⟨g, 0, none⟩) n c, .func (.func f) #[] lb] w fun e w' => e = .returned (.int .i64 (k0 : Int)) ∧ Below w.heap.size w w' := by
    have := idx_any p f lb eg (some ⟨g, 0, none⟩) c L (by omega) w hr (fun ad e => by cases e; rfl) hp.below (by omega)
    rwa [idx_hit p L k0 (by omega) h1 h2, hn] at this
  have hmx : c ≤ 9223372036854775807 := by unfold maxLen at hc2; omega
  have hst : (L.take (k0 + 1)).filter (fun x => !p x) = L.take k0 := by
    rw [List.take_succ_eq_append_getElem (by omega), List.filter_append, List.filter_cons_of_neg (by rw [h1]; simp), List.filter_eq_self.2]
    · simp
    · intro x hx
      obtain ⟨j, hj, rfl⟩ := List.mem_take_iff_getElem.1 hx
      rw [h2 j (by omega)]; rfl
  have HST := Lib.hid hst
  have HN := Lib.hid hn
  have HP := Lib.hid hp
  have e0 : ¬ ((k0 : Int) = -1) := by omega
  clear hst hn hr h1 h2 hp
  go_enter Try.func61, Try.ntmps61
  go_wp2_with fail
  refine c1.mono ?_
  rintro e w1 ⟨rfl, hb⟩
  have hg1 := hg.ext hb rfl
  have hf1 : Frm w w1 (· = g) := Frm.of_below hb
  clear hb c1 hg
  go_wp2_with fail
  go_loopw [5, 6, 7] (fun vi vj _ wr => ∃ (i j : Nat) (S : List Wl), vi = .int .i64 i ∧ vj = .int .i64 j ∧ i < j ∧ j ≤ n ∧ Hid (S.length = n ∧ S.take i = (L.take j).filter (fun x => !p x) ∧ S.drop j = L.drop j) ∧ Box wr g (S.flatMap cW ++ tl) 35 ∧ Frm w wr (· = g)) (fun _ vj _ _ => n - (intOf vj).toNat)
  case atStart => exact ⟨k0, k0 + 1, L, rfl, by go_num, by omega, hk0, Lib.hid ⟨HN.out, HST.out.symm, rfl⟩, hg1, hf1⟩
  case round =>
    clear hg1 hf1
    obtain ⟨i, j, S, rfl, rfl, hij, hj, HS, hg, hfr⟩ := hrel
    by_cases hlt : j < n
    · obtain ⟨hSl, hSt, hSd⟩ := HS.out
      have hjS : j < S.length := by omega
      have hiS : i < S.length := by omega
      have hjL : j < L.length := by rw [HN.out]; exact hlt
      have hSX : S[j] = L[j] := by
        have e1 : S[j]? = L[j]? := by
          have := congrArg (fun l => l[0]?) hSd
          simpa using this
        rw [List.getElem?_eq_getElem hjS, List.getElem?_eq_getElem hjL] at e1
        exact Option.some.inj e1
      obtain ⟨X, hX⟩ : ∃ X, S[j] = X := ⟨_, rfl⟩
      have hLT : L.take (j + 1) = L.take j ++ [X] := by rw [List.take_succ_eq_append_getElem hjL, ← hSX, hX]
      obtain ⟨u0, u1, u2, u3, u4, _⟩ := box_five hg hjS
      rw [hX] at u0 u1 u2 u3 u4
      have hdr : S.drop (j + 1) = L.drop (j + 1) := by
        have := congrArg (List.drop 1) hSd
        simpa [List.drop_drop] using this
      have HA : p X = true → Hid (S.length = n ∧ S.take i = (L.take (j + 1)).filter (fun x => !p x) ∧ S.drop (j + 1) = L.drop (j + 1)) := fun hp => Lib.hid ⟨hSl, by rw [hLT, List.filter_append, ← hSt, List.filter_cons_of_neg (by rw [hp]; simp)]; simp, hdr⟩
      have HB : p X = false → Hid ((S.set i X).length = n ∧ (S.set i X).take (i + 1) = (L.take (j + 1)).filter (fun x => !p x) ∧ (S.set i X).drop (j + 1) = L.drop (j + 1)) := fun hp => Lib.hid ⟨by simpa using hSl, by
        rw [hLT, List.filter_append, ← hSt, List.filter_cons_of_pos (by rw [hp]; rfl), List.take_succ_eq_append_getElem (by simpa using hiS), List.take_set_of_le (Nat.le_refl i), List.getElem_set_self]; rfl, by rw [List.drop_set_of_lt (by omega)]; exact hdr⟩
      have HG := Lib.hid hg
      have HFr := Lib.hid hfr
      have HIS := Lib.hid hiS
      have hput := fun (W : World) (hB : Box W g (S.flatMap cW ++ tl) 35) => box_putW hB HIS.out X
      have hin : i < n := by omega
      have HPu := Lib.hid hput
      have HS0 := Lib.hid hfr.size
      clear hSl hSt hSd hdr hLT hX hSX hjS hiS hjL HS hg hfr hput
      have hcall0 := fun (W : World) (hW : Frm w W (· = g)) => HP.out W X hW
      cases hq : p X with
      | true =>
        have hcall : ∀ W, Frm w W (· = g) → Calls Try.prog f (#[.agg (cW X).toArray] ++ lb) W fun e w' => e = .returned (.bool true) ∧ Below W.heap.size W w' := fun W hW => by have := hcall0 W hW; rwa [hq] at this
        have HAA := HA hq
        clear HA HB hcall0 hq
        go_wp2_with (go_at_fn f; refine (hcall _ (HFr.out.trans (Frm.of_below (by go_grown)))).mono ?_; rintro e w2 ⟨rfl, hb2⟩; have BG := (HG.out.old _).ext hb2 rfl; have BV : Box w2 wr.heap.size [.int .i64 X.A.x, .int .i64 X.A.y, .int .i64 X.B.x, .int .i64 X.B.y, .int .i64 X.K] 35 := (Box.new rfl).ext hb2 rfl; have FR := HFr.out.trans (Frm.of_below ((by go_grown : Below wr.heap.size wr (wr.alloc (.cells #[.int .i64 X.A.x, .int .i64 X.A.y, .int .i64 X.B.x, .int .i64 X.B.y, .int .i64 X.K] 35))).trans (hb2.mono (by simp)))); clear hb2; obtain ⟨v0, v1, v2, v3⟩ := BV.facts; obtain ⟨_, _, _, _, _, f0, f1, f2, f3, f4, i0, i1, i2, i3, i4⟩ := box_five BG HIS.out)
        go_roundw
        case rel =>
          refine ⟨_, _, _, _, _, _, _, _, _, _, _, _, _, _, _, _, _, _, _, _, _, _, _, ?_, rfl⟩
          exact ⟨i, j + 1, S, rfl, by go_num, by omega, hlt, HAA, BG, FR⟩
        case measure => simp [intOf]; omega
      | false =>
        have hcall : ∀ W, Frm w W (· = g) → Calls Try.prog f (#[.agg (cW X).toArray] ++ lb) W fun e w' => e = .returned (.bool false) ∧ Below W.heap.size W w' := fun W hW => by have := hcall0 W hW; rwa [hq] at this
        have HBB := HB hq
        clear HA HB hcall0 hq
        go_wp2_with (go_at_fn f; refine (hcall _ (HFr.out.trans (Frm.of_below (by go_grown)))).mono ?_; rintro e w2 ⟨rfl, hb2⟩; have BG := (HG.out.old _).ext hb2 rfl; have BV : Box w2 wr.heap.size [.int .i64 X.A.x, .int .i64 X.A.y, .int .i64 X.B.x, .int .i64 X.B.y, .int .i64 X.K] 35 := (Box.new rfl).ext hb2 rfl; have FR := HFr.out.trans (Frm.of_below ((by go_grown : Below wr.heap.size wr (wr.alloc (.cells #[.int .i64 X.A.x, .int .i64 X.A.y, .int .i64 X.B.x, .int .i64 X.B.y, .int .i64 X.K] 35))).trans (hb2.mono (by simp)))); clear hb2; obtain ⟨v0, v1, v2, v3⟩ := BV.facts; obtain ⟨_, _, _, _, _, f0, f1, f2, f3, f4, i0, i1, i2, i3, i4⟩ := box_five BG HIS.out)
        go_roundw
        case rel =>
          refine ⟨_, _, _, _, _, _, _, _, _, _, _, _, _, _, _, _, _, _, _, _, _, _, _, ?_, rfl⟩
          exact ⟨i + 1, j + 1, S.set i X, by go_num, by go_num, by omega, hlt, HBB, HPu.out _ BG, ((((FR.setCell _ rfl _).setCell _ rfl _).setCell _ rfl _).setCell _ rfl _).setCell _ rfl _⟩
        case measure => simp [intOf]; omega
    · obtain rfl : j = n := by omega
      obtain ⟨hSl, hSt, hSd⟩ := HS.out
      have hti : ((S.take i).flatMap cW).length = i * 5 := by rw [flatMap_len cW_len, List.length_take]; omega
      have hLt : L.take j = L := List.take_of_length_le (by rw [HN.out]; omega)
      rw [hLt] at hSt
      have hmi : i = (L.filter (fun x => !p x)).length := by rw [← hSt, List.length_take]; omega
      have hSf : S.take i = L.filter (fun x => !p x) := hSt
      have hcl := fun (ty : TypeId) (cs : Nat) => clear_run ty g (i * 5) (j - i) cs _ (by omega) hg (by rw [List.length_append, flatMap_len cW_len]; omega)
      have e2 : (S.flatMap cW ++ tl).take (i * 5) ++ zN (j - i) ++ (S.flatMap cW ++ tl).drop (i * 5 + (j - i) * 5) = (L.filter (fun x => !p x)).flatMap cW ++ (zN (j - i) ++ tl) := by
        have eS : S.flatMap cW ++ tl = (S.take i).flatMap cW ++ ((S.drop i).flatMap cW ++ tl) := by rw [← List.append_assoc, ← List.flatMap_append, List.take_append_drop]
        have eD : ((S.drop i).flatMap cW).length = (j - i) * 5 := by rw [flatMap_len cW_len, List.length_drop, hSl]
        rw [eS, ← hSf, ← hti, List.take_left, List.drop_length_add_append, ← eD, List.drop_left, List.append_assoc]
      rw [e2] at hcl
      obtain ⟨R, hR⟩ : ∃ R : Array Value, R = ((L.filter (fun x => !p x)).flatMap cW ++ (zN (j - i) ++ tl)).toArray := ⟨_, rfl⟩
      have hB2 : Box (wr.setRow g R) g ((L.filter (fun x => !p x)).flatMap cW ++ (zN (j - i) ++ tl)) 35 := by rw [hR]; exact hg.setRow
      have hF2 : Frm w (wr.setRow g R) (· = g) := ⟨hfr.os, hfr.tape, hfr.output, by simpa [World.setRow] using hfr.size, fun k hk hn => by rw [setRow_other _ _ _ _ hn]; exact hfr.block k hk hn⟩
      rw [← hR] at hcl
      have HE := Lib.hid (And.intro hmi (And.intro hB2 hF2))
      clear hR e2 hSf hti hSl hSt hSd HS hg hfr hB2 hF2 hmi
      have hci : ¬ (c = i) := by omega
      have hin : i ≤ j := by omega
      have hic : (i : Int) ≤ (c : Int) := by omega
      have hin2 : (i : Int) ≤ (j : Int) := by omega
      have hjj : ¬ ((j : Int) < (j : Int)) := by omega
      go_wp2
      go_ret
      exact ⟨i, hin, rfl, HE.out⟩
theorem df_any (p : Wl → Bool) (f : Nat) (lb : Array Value) (eg : ∀ args w, (callFunc f args).run Try.prog w = .ok (.enter f args) w) (B : Nat) (v : Value) (L : List Wl) (hL : L.length ≤ 1000000) (w : World) (h : WRow w B v L) (hp0 : PredBelow Try.prog f lb (fun x => .agg (cW x).toArray) p w) (hp : ∀ g, v.ownBlock = some g → PredFrm f lb p w g) :
    Calls Try.prog 61 #[v, .func (.func f) #[] lb] w fun e w' => ∃ v', e = .returned v' ∧ WRow w' B v' (L.filter fun x => !p x) ∧ v'.ownBlock = v.ownBlock ∧ Frm w w' (fun k => v.ownBlock = some k) := by
  rcases first_of p L with hno | ⟨k, hk, h1, h2⟩
  · obtain ⟨a, c, hv, hr, hf⟩ := h.row
    have hfl : L.filter (fun x => !p x) = L := List.filter_eq_self.2 fun x hx => by rw [hno x hx]; rfl
    rw [hfl]
    have := df_none p f lb eg a c L hL hf hno w hr hp0
    rw [← hv] at this
    refine this.mono ?_
    rintro e w' ⟨rfl, hb⟩
    exact ⟨v, rfl, h.ext hb rfl, rfl, Frm.of_below hb⟩
  · rcases h.box with ⟨_, e⟩ | ⟨g, c, tl, hv, hB, hg, hc, hc2, htl⟩
    · subst e; simp at hk
    · obtain ⟨a, c', hv2, hr, _⟩ := h.row
      rw [hv] at hv2
      simp only [Value.slice.injEq, true_and] at hv2
      obtain ⟨rfl, rfl⟩ := hv2
      subst hv
      refine (df_some p f lb eg g L.length c L tl rfl hL hc hc2 k hk h1 h2 w hg hr (hp g rfl)).mono ?_
      rintro e w' ⟨m, hm, rfl, hmL, hb, hfr⟩
      refine ⟨_, rfl, ?_, rfl, ⟨hfr.os, hfr.tape, hfr.output, hfr.size, fun k hk hn => hfr.block k hk (fun e => hn (by rw [e]; rfl))⟩⟩
      rw [hmL]
      refine WRow.of_box hB hb (by omega) hc2 ?_
      rw [List.length_append, zN_len, htl]; omega
def gone (V X : Wl) : Bool := decide (cmpP X.B V.A ≤ 0)
theorem gone_any (X V : Wl) (bv : Nat) (w : World) (Hv : Box w bv [.int .i64 V.A.x, .int .i64 V.A.y, .int .i64 V.B.x, .int .i64 V.B.y, .int .i64 V.K] 35) :
    Calls Try.prog 62 #[.agg #[.int .i64 X.A.x, .int .i64 X.A.y, .int .i64 X.B.x, .int .i64 X.B.y, .int .i64 X.K], .pointer (some ⟨bv, 0, none⟩)] w fun e w' => e = .returned (.bool (gone V X)) ∧ Below w.heap.size w w' := by
  have c1 := cmp_pt X.B V.A
  unfold gone
  generalize cmpP X.B V.A = z at *
  go_enter Try.func62, Try.ntmps62
  obtain ⟨xh, yh, zh, vh⟩ := Hv.facts
  go_wp2_with fail
  clear xh yh zh vh
  refine at_call fun W1 hW => ?_
  have Bx : Box W1 (w.heap.size) [.int .i64 X.A.x, .int .i64 X.A.y, .int .i64 X.B.x, .int .i64 X.B.y, .int .i64 X.K] 35 := by rw [hW]; exact Box.new rfl
  have hw : Below w.heap.size w W1 := by rw [hW]; go_grown
  clear hW
  have BV : Box W1 bv [.int .i64 V.A.x, .int .i64 V.A.y, .int .i64 V.B.x, .int .i64 V.B.y, .int .i64 V.K] 35 := Hv.ext hw rfl
  refine (c1 _).mono ?_
  rintro e w2 ⟨rfl, hb⟩
  replace Bx := Bx.ext hb rfl
  replace BV := BV.ext hb rfl
  replace hw := hw.trans (hb.mono hw.size)
  clear hb
  obtain ⟨xx, yx, zx, vx⟩ := Bx.facts
  obtain ⟨xV, yV, zV, vV⟩ := BV.facts
  go_wp2
  go_ret
  exact ⟨ret_bool rfl, by have hl := hw.size; go_grown⟩

theorem gone_enter : ∀ args w, (callFunc 62 args).run Try.prog w = .ok (.enter 62 args) w := enters_of Try.func62 (by kernel_rfl) rfl
theorem gone_frm (V : Wl) (bv g : Nat) (w : World) (Hv : Box w bv [.int .i64 V.A.x, .int .i64 V.A.y, .int .i64 V.B.x, .int .i64 V.B.y, .int .i64 V.K] 35) (hne : bv ≠ g) : PredFrm 62 #[.pointer (some ⟨bv, 0, none⟩)] (fun x => gone V x) w g := fun W x hf =>
  gone_any x V bv W (hf.box Hv hne)
theorem gone_below (V : Wl) (bv : Nat) (w : World) (Hv : Box w bv [.int .i64 V.A.x, .int .i64 V.A.y, .int .i64 V.B.x, .int .i64 V.B.y, .int .i64 V.K] 35) : PredBelow Try.prog 62 #[.pointer (some ⟨bv, 0, none⟩)] (fun x => .agg (cW x).toArray) (fun x => gone V x) w := fun W x hb =>
  (gone_any x V bv W (Hv.ext hb rfl)).mono fun _ _ ⟨he, hx⟩ => ⟨he, hb.trans (hx.mono hb.size)⟩
end Go.Proofs.Ytnocdecimcpkfaa

namespace Go.Proofs.Ytnocdecimcpkfaa
open Go.RowKit Go.Sort Go.Lib
attribute [local go_sem] rOper rAt rUpon cell_set sg_i64 sg_u64 alloc_cell alloc_frozen
attribute [local go_sem 10000] pt_eql pt_neq wal_eql wal_neq
attribute [local irreducible] rWalk

def opn (L : List Wl) : List Wl := L.foldl (fun o x => o.filter (fun y => !gone x y) ++ [x]) []
theorem opn_snoc (L : List Wl) (x : Wl) : opn (L ++ [x]) = (opn L).filter (fun y => !gone x y) ++ [x] := by unfold opn; rw [List.foldl_append]; rfl
theorem opn_len0 : ∀ (L o : List Wl), (L.foldl (fun o x => o.filter (fun y => !gone x y) ++ [x]) o).length ≤ o.length + L.length
  | [], o => by simp
  | x :: L, o => by
    have h1 := opn_len0 L (o.filter (fun y => !gone x y) ++ [x])
    have h2 := List.length_filter_le (fun y => !gone x y) o
    simp only [List.foldl_cons, List.length_cons, List.length_append, List.length_nil] at *
    omega
theorem opn_len (L : List Wl) : (opn L).length ≤ L.length := by have := opn_len0 L []; simpa [opn] using this
/-- The k-th meets one that is open as no two may. -/
def hitB (L : List Wl) (x : Wl) : Bool := ((opn L).filter (fun y => !gone x y)).any fun y => bar1 y x
set_option maxRecDepth 100000 in
set_option maxHeartbeats 1000000 in
theorem tangled_any (a : Option Addr) (c : Nat) (L : List Wl) (hL : L.length < 1000000) (b : Bool) (hb : b = true ↔ ∃ (k : Nat) (h : k < L.length), hitB (L.take k) L[k] = true) (w : World) (h : RowAt cW 5 w a L) :
    Calls Try.prog 37 #[.slice a L.length c] w fun e w' => e = .returned (.bool b) ∧ Below w.heap.size w w' := by
  obtain ⟨n, hn1⟩ : ∃ n, L.length = n := ⟨_, rfl⟩
  have hn : n < 1000000 := hn1 ▸ hL
  have H1 := Lib.hid hn1
  have HB := Lib.hid hb
  rw [hn1]
  clear hL hb hn1
  go_enter Try.func37, Try.ntmps37
  go_wp2
  go_loopw [3, 5, 8] (fun vl _ vi wr => ∃ k : Nat, vi = .int .i64 k ∧ k ≤ n ∧ Hid (∀ (i : Nat) (hi : i < L.length), i < k → hitB (L.take i) L[i] = false) ∧ WRow wr w.heap.size vl (opn (L.take k)) ∧ Below w.heap.size w wr) (fun _ _ vi _ => n - (intOf vi).toNat)
  case atStart => exact ⟨0, rfl, Nat.zero_le _, Lib.hid (fun i _ h => absurd h (Nat.not_lt_zero _)), WRow.nil0 _ _, Below.refl _ _⟩
  case round =>
    obtain ⟨k, rfl, hk, HF, hown, hwr⟩ := hrel
    by_cases hlt : k < n
    · have hkL : k < L.length := by rw [H1.out]; exact hlt
      obtain ⟨ad, A, ea, eA, hA⟩ := (h.ext hwr rfl).five (j := k) hkL
      have HY : Hid (hitB (L.take k) L[k] = true → b = true) := Lib.hid (fun e => HB.out.2 ⟨k, hkL, e⟩)
      have HN : Hid (hitB (L.take k) L[k] = false → ∀ (i : Nat) (hi : i < L.length), i < k + 1 → hitB (L.take i) L[i] = false) := Lib.hid (fun e i hi hik => by
        by_cases ek : i = k
        · subst ek; exact e
        · exact HF.out i hi (by omega))
      have HS : Hid (opn (L.take (k + 1)) = (opn (L.take k)).filter (fun y => !gone L[k] y) ++ [L[k]]) := Lib.hid (by rw [List.take_succ_eq_append_getElem hkL, opn_snoc])
      have hO : (opn (L.take k)).length ≤ 1000000 := Nat.le_trans (opn_len _) (by rw [List.length_take]; omega)
      have hO3 : ((opn (L.take k)).filter (fun y => !gone L[k] y)).length ≤ 1000000 := Nat.le_trans (List.length_filter_le _ _) hO
      cases hbar : hitB (L.take k) L[k] with
      | true =>
        have HT := Lib.hid (HY.out hbar)
        unfold hitB at hbar
        generalize opn (L.take k) = O at *
        clear HY HN HS HF
        generalize L[k] = X at *
        generalize hO2 : O.filter (fun y => !gone X y) = O2 at *
        obtain ⟨t0, t1, t2, t3, t4, t5⟩ := hA.facts
        subst ea
        have HO := Lib.hid hown
        have HW := Lib.hid hwr
        have hlt0 := hown.lt
        go_wp2_with fail
        refine at_call fun W2 hW => ?_
        have BX2 : Box W2 wr.heap.size [.int .i64 X.A.x, .int .i64 X.A.y, .int .i64 X.B.x, .int .i64 X.B.y, .int .i64 X.K] 35 := by rw [hW]; exact Box.new rfl
        have hown2 : WRow W2 w.heap.size u3 O := by rw [hW]; exact HO.out.alloc _
        have hw2 : Below w.heap.size w W2 := by have hl := HW.out.size; have hwr := HW.out; rw [hW]; go_grown
        have hs2 : W2.heap.size = wr.heap.size + 1 := by rw [hW]; simp
        clear hW t0 t1 t2 t3 t4 t5 hA
        refine (df_any (fun x => gone X x) 62 _ gone_enter w.heap.size u3 O hO W2 hown2 (gone_below X _ W2 BX2) (fun g e => gone_frm X _ g W2 BX2 (by have := (hlt0 g e).2; omega))).mono ?_
        rintro e w3 ⟨v3, rfl, hown3, hvo, hfr3⟩
        have BX3 : Box w3 wr.heap.size [.int .i64 X.A.x, .int .i64 X.A.y, .int .i64 X.B.x, .int .i64 X.B.y, .int .i64 X.K] 35 := hfr3.box BX2 (fun e => by have := (hlt0 _ e).2; omega)
        have hw3 : Below w.heap.size w w3 := hw2.trans (hfr3.below (fun k e => (hlt0 k e).1) hw2.size)
        have hs3 : wr.heap.size + 1 ≤ w3.heap.size := by have := hfr3.size; omega
        have hlt3 : ∀ q, v3.ownBlock = some q → q < wr.heap.size := fun q hq => (hlt0 q (by rw [← hvo]; exact hq)).2
        obtain ⟨a3, c3, hv3, hr3, hf3⟩ := hown3.row
        rw [hO2] at hown3 hr3 hv3
        have cb := bars_any X a3 c3 O2.length O2 rfl hO3 hf3 w3 hr3
        rw [hbar, ← hv3] at cb
        clear hfr3 hown2 hw2 BX2 hvo hr3 hf3 hv3 hlt0
        obtain ⟨z0, z1, z2, z3⟩ := BX3.facts
        go_wp2_with fail
        refine cb.mono ?_
        rintro e w4 ⟨rfl, hb4⟩
        have BX4 := BX3.ext hb4 rfl
        have hw4 := hw3.trans (hb4.mono hw3.size)
        have hown4 := hown3.ext hb4 rfl
        have hs4 := Nat.le_trans hs3 hb4.size
        clear hb4 cb BX3 hw3 hown3 z0 z1 z2 z3 hs3
        obtain ⟨z0, z1, z2, z3⟩ := BX4.facts
        go_wp2
        go_ret
        exact ⟨by rw [HT.out]; rfl, hw4⟩
      | false =>
        have HNF := Lib.hid (HN.out hbar)
        unfold hitB at hbar
        generalize opn (L.take k) = O at *
        clear HY HN HF
        generalize L[k] = X at *
        generalize hO2 : O.filter (fun y => !gone X y) = O2 at *
        obtain ⟨t0, t1, t2, t3, t4, t5⟩ := hA.facts
        subst ea
        have HO := Lib.hid hown
        have HW := Lib.hid hwr
        have hlt0 := hown.lt
        go_wp2_with fail
        refine at_call fun W2 hW => ?_
        have BX2 : Box W2 wr.heap.size [.int .i64 X.A.x, .int .i64 X.A.y, .int .i64 X.B.x, .int .i64 X.B.y, .int .i64 X.K] 35 := by rw [hW]; exact Box.new rfl
        have hown2 : WRow W2 w.heap.size u3 O := by rw [hW]; exact HO.out.alloc _
        have hw2 : Below w.heap.size w W2 := by have hl := HW.out.size; have hwr := HW.out; rw [hW]; go_grown
        have hs2 : W2.heap.size = wr.heap.size + 1 := by rw [hW]; simp
        clear hW t0 t1 t2 t3 t4 t5 hA
        refine (df_any (fun x => gone X x) 62 _ gone_enter w.heap.size u3 O hO W2 hown2 (gone_below X _ W2 BX2) (fun g e => gone_frm X _ g W2 BX2 (by have := (hlt0 g e).2; omega))).mono ?_
        rintro e w3 ⟨v3, rfl, hown3, hvo, hfr3⟩
        have BX3 : Box w3 wr.heap.size [.int .i64 X.A.x, .int .i64 X.A.y, .int .i64 X.B.x, .int .i64 X.B.y, .int .i64 X.K] 35 := hfr3.box BX2 (fun e => by have := (hlt0 _ e).2; omega)
        have hw3 : Below w.heap.size w w3 := hw2.trans (hfr3.below (fun k e => (hlt0 k e).1) hw2.size)
        have hs3 : wr.heap.size + 1 ≤ w3.heap.size := by have := hfr3.size; omega
        have hlt3 : ∀ q, v3.ownBlock = some q → q < wr.heap.size := fun q hq => (hlt0 q (by rw [← hvo]; exact hq)).2
        obtain ⟨a3, c3, hv3, hr3, hf3⟩ := hown3.row
        rw [hO2] at hown3 hr3 hv3
        have cb := bars_any X a3 c3 O2.length O2 rfl hO3 hf3 w3 hr3
        rw [hbar, ← hv3] at cb
        clear hfr3 hown2 hw2 BX2 hvo hr3 hf3 hv3 hlt0
        obtain ⟨z0, z1, z2, z3⟩ := BX3.facts
        go_wp2_with fail
        refine cb.mono ?_
        rintro e w4 ⟨rfl, hb4⟩
        have BX4 := BX3.ext hb4 rfl
        have hw4 := hw3.trans (hb4.mono hw3.size)
        have hown4 := hown3.ext hb4 rfl
        have hs4 := Nat.le_trans hs3 hb4.size
        clear hb4 cb BX3 hw3 hown3 z0 z1 z2 z3 hs3
        obtain ⟨z0, z1, z2, z3⟩ := BX4.facts
        have hbs : w.heap.size ≤ w4.heap.size := hw4.size
        have hl5 := fun q hq => (hown4.lt q hq).1
        have HW4 := Lib.hid hw4
        have HB4 := Lib.hid hbs
        go_wp2_with (at_builtin; refine append_wl rfl _ _ rfl w.heap.size _ O2 rfl (hown4.alloc _) w4.heap.size X rfl (Box.new rfl) hO3 (by have := HB4.out; simp; omega) ?_; intro w5 v5 hown5 hg5 hn5)
        have hw5 := (HW4.out.alloc HB4.out (.cells #[.int .i64 X.A.x, .int .i64 X.A.y, .int .i64 X.B.x, .int .i64 X.B.y, .int .i64 X.K] 35)).grown hg5 (by have := HB4.out; simp; omega) hl5
        clear hg5 hl5 z0 z1 z2 z3
        go_wp2
        go_roundw
        case rel => exact ⟨k + 1, by go_num, hlt, HNF, by rw [HS.out]; exact hown5, hw5⟩
        case measure => simp [intOf]; omega
    · obtain rfl : k = n := by omega
      have HT : Hid (b = false) := Lib.hid (by
        cases hb : b with
        | false => rfl
        | true =>
          obtain ⟨i, hi, e⟩ := HB.out.1 hb
          have := HF.out i hi (by rw [H1.out] at hi; exact hi)
          rw [e] at this; cases this)
      go_wp2
      go_ret
      exact ⟨by rw [HT.out]; rfl, hwr⟩
end Go.Proofs.Ytnocdecimcpkfaa
