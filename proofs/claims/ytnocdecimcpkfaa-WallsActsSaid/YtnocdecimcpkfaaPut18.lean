/- Put together: Rise, WalM, WalF. -/
import Derived.Test.YtnocdecimcpkfaaRows
import Derived.Test.YtnocdecimcpkfaaPut15
import Derived.Test.YtnocdecimcpkfaaPut17
import Derived.Test.YtnocdecimcpkfaaPut1
import Derived.WalkKit
import Derived.WalkSpells
import Derived.WalkLawsBesides
import Derived.Laws.Externs
import Derived.Deep.QuietTactic
import Derived.BigQuiet
import Derived.Lib.Hide
import Derived.Handy
import Derived.OwnWalk
import Derived.LoopN
import Derived.RegionTactic
namespace Go.Proofs.Ytnocdecimcpkfaa
section
variable {α : Type} {c : α → α → Int}
def Rising (c : α → α → Int) (L : List α) : Prop := L.Pairwise fun x y => c x y < 0
theorem rising_unique (W : Whole c) : ∀ {L M : List α}, Rising c L → Rising c M → (∀ p, p ∈ L ↔ p ∈ M) → L = M
  | [], M, _, _, h => by
    cases M with
    | nil => rfl
    | cons y M => exact absurd ((h y).2 (by simp)) (by simp)
  | x :: L, M, h1, h2, h => by
    cases M with
    | nil => exact absurd ((h x).1 (by simp)) (by simp)
    | cons y M =>
      unfold Rising at h1 h2
      rw [List.pairwise_cons] at h1 h2
      have irr : ∀ z, ¬ c z z < 0 := fun z => by have := (W.eq0 (x := z) (y := z)).2 rfl; omega
      have e : x = y := by
        rcases List.mem_cons.1 ((h x).1 (by simp)) with e | hx
        · exact e
        · rcases List.mem_cons.1 ((h y).2 (by simp)) with e | hy
          · exact e.symm
          · exact absurd (W.trans (h1.1 y hy) (h2.1 x hx)) (irr _)
      subst e
      rw [rising_unique W h1.2 h2.2 (fun p => ⟨fun hp => ?_, fun hp => ?_⟩)]
      · rcases List.mem_cons.1 ((h p).1 (by simp [hp])) with e | h'
        · subst e; exact absurd (h1.1 p hp) (irr p)
        · exact h'
      · rcases List.mem_cons.1 ((h p).2 (by simp [hp])) with e | h'
        · subst e; exact absurd (h2.1 p hp) (irr p)
        · exact h'
/-- One comes at its place. -/
theorem rising_insert (W : Whole c) {M : List α} {x : α} {k : Nat} (h : Rising c M) (hk : k ≤ M.length) (hlo : ∀ (i : Nat) (hi : i < k), c (M[i]'(by omega)) x < 0) (hhi : ∀ (i : Nat) (_ : k ≤ i) (h2 : i < M.length), 0 < c (M[i]'h2) x) :
    Rising c (M.take k ++ x :: M.drop k) ∧ ∀ p, p ∈ M.take k ++ x :: M.drop k ↔ p ∈ M ∨ p = x := by
  unfold Rising at *
  have hs : M.take k ++ M.drop k = M := List.take_append_drop k M
  rw [← hs, List.pairwise_append] at h
  have g1 : ∀ y ∈ M.take k, c y x < 0 := fun y hy => by
    obtain ⟨i, hi, e⟩ := List.getElem_of_mem hy
    simp only [List.length_take] at hi
    rw [← e, List.getElem_take]
    exact hlo i (by omega)
  have g2 : ∀ y ∈ M.drop k, c x y < 0 := fun y hy => by
    obtain ⟨i, hi, e⟩ := List.getElem_of_mem hy
    simp only [List.length_drop] at hi
    rw [← e, List.getElem_drop]
    have := hhi (k + i) (by omega) (by omega)
    have := W.neg (M[k + i]'(by omega)) x
    omega
  refine ⟨?_, fun p => ?_⟩
  · rw [List.pairwise_append, List.pairwise_cons]
    exact ⟨h.1, ⟨g2, h.2.1⟩, fun a ha b hb => by
      rcases List.mem_cons.1 hb with rfl | hb
      · exact g1 a ha
      · exact h.2.2 a ha b hb⟩
  · constructor
    · intro hp
      rcases List.mem_append.1 hp with hp | hp
      · exact .inl (List.mem_of_mem_take hp)
      · rcases List.mem_cons.1 hp with rfl | hp
        · exact .inr rfl
        · exact .inl (List.mem_of_mem_drop hp)
    · rintro (hp | rfl)
      · rw [← hs] at hp
        rcases List.mem_append.1 hp with hp | hp
        · exact List.mem_append.2 (.inl hp)
        · exact List.mem_append.2 (.inr (List.mem_cons_of_mem _ hp))
      · exact List.mem_append.2 (.inr List.mem_cons_self)
theorem rising_lt {M : List α} (h : Rising c M) {i j : Nat} (hi : i < M.length) (hj : j < M.length) (hij : i < j) : c M[i] M[j] < 0 := by
  unfold Rising at h
  rw [List.pairwise_iff_getElem] at h
  exact h i j hi hj hij
/-- All of those ahead of one that is less are less. -/
theorem rising_below (W : Whole c) {M : List α} {x : α} {k : Nat} (h : Rising c M) (hk : k < M.length) (hx : c M[k] x < 0) : ∀ (i : Nat) (hi : i < k + 1), c (M[i]'(by omega)) x < 0 := fun i hi => by
  by_cases e : i = k
  · subst e; exact hx
  · exact W.trans (rising_lt h (by omega) hk (by omega)) hx
/-- What stands while those behind a place move one on. -/
structure Moved (M S : List α) (k : Nat) : Prop where
  len : S.length = M.length + 1
  lo : S.take k = M.take k
  hi : S.drop (k + 1) = M.drop k
theorem moved_start (M : List α) (x : α) : Moved M (M ++ [x]) M.length := ⟨by simp, by simp, by simp⟩
theorem Moved.get {M S : List α} {k : Nat} (h : Moved M S (k + 1)) (hk : k < M.length) : S[k]'(by rw [h.len]; omega) = M[k] := by
  have := congrArg (fun l => l[k]?) h.lo
  simp only [List.getElem?_take, show k < k + 1 by omega, if_true] at this
  rw [List.getElem?_eq_getElem (by rw [h.len]; omega), List.getElem?_eq_getElem hk] at this
  exact Option.some.inj this
theorem Moved.step {M S : List α} {k : Nat} (h : Moved M S (k + 1)) (hk : k < M.length) : Moved M (S.set (k + 1) M[k]) k := by
  refine ⟨by simp [h.len], ?_, ?_⟩
  · rw [List.take_set_of_le (by omega)]
    have := congrArg (List.take k) h.lo
    simpa [List.take_take, Nat.min_eq_left (Nat.le_succ k)] using this
  · rw [List.drop_set, if_neg (by omega), Nat.sub_self, List.drop_eq_getElem_cons (by rw [h.len]; omega), List.set_cons_zero, h.hi]
    exact (List.drop_eq_getElem_cons hk).symm
theorem Moved.done {M S : List α} {k : Nat} (h : Moved M S k) (hk : k ≤ M.length) (x : α) : S.set k x = M.take k ++ x :: M.drop k := by
  rw [List.set_eq_take_append_cons_drop, if_pos (by rw [h.len]; omega), h.lo, h.hi]
end
end Go.Proofs.Ytnocdecimcpkfaa

namespace Go.Proofs.Ytnocdecimcpkfaa

abbrev Ris (L : List Wl) : Prop := Rising cmpW L
def posW (L : List Wl) (p q : Pt) : Nat := (L.filter fun x => decide (cmpW x ⟨p, q, 0⟩ < 0)).length
def bgL (L : List Wl) (p : Pt) : List Wl := L.filter fun x => decide (cmpP x.A p ≤ 0)
def isW (p q : Pt) (x : Wl) : Bool := decide (x.A = p) && decide (x.B = q)
def kindW (L : List Wl) (p q : Pt) : Int := match L.find? (isW p q) with | some x => x.K | none => 0
structure GoodW (x : Wl) : Prop where
  va : vld x.A = true
  vb : vld x.B = true
  ab : cmpP x.A x.B < 0
  k : x.K = 1 ∨ x.K = 2
theorem isW_iff {p q : Pt} {x : Wl} : isW p q x = true ↔ x.A = p ∧ x.B = q := by simp [isW]
theorem prefix_filter {q : Wl → Bool} : ∀ {L : List Wl}, L.Pairwise (fun x y => q y = true → q x = true) →
    (∀ (k : Nat) (hk : k < L.length), q L[k] = true ↔ k < (L.filter q).length) ∧ (L.filter q).length ≤ L.length ∧ L.take (L.filter q).length = L.filter q ∧ L.drop (L.filter q).length = L.filter fun x => !q x
  | [], _ => by simp
  | x :: L, h => by
    rw [List.pairwise_cons] at h
    obtain ⟨h1, h2, h3, h4⟩ := prefix_filter h.2
    cases hq : q x with
    | true =>
      rw [List.filter_cons_of_pos hq, List.filter_cons_of_neg (by rw [hq]; simp)]
      refine ⟨fun k hk => ?_, by simp; omega, by simp [h3], by simp [h4]⟩
      cases k with
      | zero => simp [hq]
      | succ k => simpa using h1 k (by simpa using hk)
    | false =>
      have hn : ∀ y ∈ L, q y = false := fun y hy => by
        cases e : q y with
        | false => rfl
        | true => have := h.1 y hy e; rw [hq] at this; cases this
      have e0 : L.filter q = [] := List.filter_eq_nil_iff.2 fun y hy => by rw [hn y hy]; simp
      rw [List.filter_cons_of_neg (by rw [hq]; simp), List.filter_cons_of_pos (by rw [hq]; rfl), e0]
      refine ⟨fun k hk => ?_, by simp, by simp, ?_⟩
      · cases k with
        | zero => simp [hq]
        | succ k =>
          have : q (L[k]'(by simpa using hk)) = false := hn _ (List.getElem_mem _)
          simp [this]
      · rw [List.length_nil, List.drop_zero, List.filter_eq_self.2 fun y hy => by rw [hn y hy]; rfl]
theorem ris_mono {L : List Wl} (h : Ris L) {q : Wl → Bool} (hq : ∀ x y, cmpW x y < 0 → q y = true → q x = true) : L.Pairwise (fun x y => q y = true → q x = true) :=
  h.imp fun hxy => hq _ _ hxy
theorem pos_spec {L : List Wl} (h : Ris L) (p q : Pt) : (∀ (k : Nat) (hk : k < L.length), cmpW L[k] ⟨p, q, 0⟩ < 0 ↔ k < posW L p q) ∧ posW L p q ≤ L.length := by
  obtain ⟨h1, h2, _⟩ := prefix_filter (ris_mono h (q := fun x => decide (cmpW x ⟨p, q, 0⟩ < 0)) fun x y hxy hy => by
    simp only [decide_eq_true_eq] at hy ⊢; exact cmpW_trans hxy hy)
  exact ⟨fun k hk => by have := h1 k hk; rw [decide_eq_true_eq] at this; exact this, h2⟩
theorem bgn_lt {x : Wl} {p : Pt} : bgn x p < 0 ↔ cmpP x.A p ≤ 0 := by unfold bgn; split <;> simp_all <;> omega
theorem cmpA_le {x y : Wl} (h : cmpW x y < 0) : cmpP x.A y.A ≤ 0 := by
  rw [cmpW_lt] at h
  rcases h with h | ⟨h, _⟩
  · omega
  · rw [h, cmpP_eq0.2 rfl]; omega
theorem bg_spec {L : List Wl} (h : Ris L) (p : Pt) : (∀ (k : Nat) (hk : k < L.length), bgn L[k] p < 0 ↔ k < (bgL L p).length) ∧ (bgL L p).length ≤ L.length ∧ L.take (bgL L p).length = bgL L p := by
  obtain ⟨h1, h2, h3, _⟩ := prefix_filter (ris_mono h (q := fun x => decide (cmpP x.A p ≤ 0)) fun x y hxy hy => by
    simp only [decide_eq_true_eq] at hy ⊢; exact wholeP.le_trans (cmpA_le hxy) hy)
  exact ⟨fun k hk => by have := h1 k hk; rw [decide_eq_true_eq] at this; rw [bgn_lt]; exact this, h2, h3⟩
theorem fnd_true {L : List Wl} (h : Ris L) {p q : Pt} (hf : fnd L (posW L p q) p q = true) (hg : ∀ x ∈ L, 0 < x.K) :
    ∃ hm : posW L p q < L.length, L.find? (isW p q) = some L[posW L p q] ∧ L[posW L p q].A = p ∧ L[posW L p q].B = q := by
  obtain ⟨h1, h2⟩ := pos_spec h p q
  unfold fnd at hf
  rcases Nat.lt_or_ge (posW L p q) L.length with hm | hm
  · rw [List.getElem?_eq_getElem hm] at hf
    refine ⟨hm, ?_, by simpa using hf⟩
    refine List.find?_eq_some_iff_append.2 ⟨hf, L.take (posW L p q), L.drop (posW L p q + 1), ?_, fun y hy => ?_⟩
    · rw [List.getElem_cons_drop hm, List.take_append_drop]
    · obtain ⟨k, hk, rfl⟩ := List.mem_take_iff_getElem.1 hy
      have hk' : k < posW L p q := by omega
      have := (h1 k (by omega)).2 hk'
      cases e : isW p q L[k] with
      | false => rfl
      | true =>
        rw [isW_iff] at e
        rw [cmpW_lt] at this
        have hK := hg _ (List.getElem_mem (show k < L.length by omega))
        simp only [e.1, e.2, cmpP_eq0.2 rfl] at this
        omega
  · rw [List.getElem?_eq_none hm] at hf; cases hf
theorem fnd_false {L : List Wl} (h : Ris L) {p q : Pt} (hf : fnd L (posW L p q) p q = false) (hg : ∀ x ∈ L, 0 < x.K) : L.find? (isW p q) = none := by
  obtain ⟨h1, h2⟩ := pos_spec h p q
  rw [List.find?_eq_none]
  intro y hy e
  obtain ⟨k, hk, rfl⟩ := List.mem_iff_getElem.1 hy
  rw [isW_iff] at e
  have hK := hg _ (List.getElem_mem hk)
  have n1 : ¬ cmpW L[k] ⟨p, q, 0⟩ < 0 := fun n => by
    rw [cmpW_lt] at n
    simp only [e.1, e.2, cmpP_eq0.2 rfl] at n
    omega
  have hkm : posW L p q ≤ k := Nat.le_of_not_lt fun n => n1 ((h1 k hk).2 n)
  have hm : posW L p q < L.length := by omega
  unfold fnd at hf
  rw [List.getElem?_eq_getElem hm] at hf
  have n2 : ¬ cmpW L[posW L p q] ⟨p, q, 0⟩ < 0 := fun n => by have := (h1 _ hm).1 n; omega
  rcases Nat.eq_or_lt_of_le hkm with hkm | hkm
  · have : isW p q L[posW L p q] = true := by rw [isW_iff]; simp only [hkm]; exact e
    unfold isW at this; simp only at hf; rw [hf] at this; cases this
  · have n3 := rising_lt h hm hk hkm
    rw [cmpW_lt] at n2 n3
    rw [e.1, e.2] at n3
    have e1 : L[posW L p q].A = p := by
      rcases n3 with n3 | n3
      · exact absurd (.inl n3) n2
      · exact n3.1
    have e2 : L[posW L p q].B = q := by
      rcases n3 with n3 | ⟨_, n3 | n3⟩
      · exact absurd (.inl n3) n2
      · exact absurd (.inr ⟨e1, .inl n3⟩) n2
      · exact n3.1
    simp [e1, e2] at hf
theorem kindW_true {L : List Wl} (h : Ris L) {p q : Pt} (hf : fnd L (posW L p q) p q = true) (hg : ∀ x ∈ L, 0 < x.K) (hm : posW L p q < L.length) : kindW L p q = L[posW L p q].K := by
  obtain ⟨_, h1, _⟩ := fnd_true h hf hg
  unfold kindW; rw [h1]
theorem kindW_false {L : List Wl} (h : Ris L) {p q : Pt} (hf : fnd L (posW L p q) p q = false) (hg : ∀ x ∈ L, 0 < x.K) : kindW L p q = 0 := by
  unfold kindW; rw [fnd_false h hf hg]
end Go.Proofs.Ytnocdecimcpkfaa

namespace Go.Proofs.Ytnocdecimcpkfaa
open Go.RowKit Go.Sort
attribute [local go_sem] rOper rAt rUpon cell_set sg_i64 sg_u64 alloc_cell alloc_frozen
attribute [local go_sem 10000] pt_eql pt_neq wal_eql wal_neq
attribute [local irreducible] rWalk

theorem RowAt.take {α : Type} {c : α → List Value} {k : Nat} {w : World} {a : Option Addr} {L : List α} (h : RowAt c k w a L) (m : Nat) : RowAt c k w a (L.take m) := fun j x hx => h j x (by
  rw [List.getElem?_take] at hx
  split at hx
  · exact hx
  · cases hx)
/-- A set in memory, to be read. -/
structure SetRd (w : World) (sb : Nat) (a0 : Option Addr) (c n : Nat) (L : List Wl) : Prop where
  box : Box w sb [.slice a0 n c] 64
  row : RowAt cW 5 w a0 L
  len : L.length = n
  le : L.length ≤ 1000000
  nc : n ≤ c
  flat : Flat a0
  nil0 : a0 = none → L = []
  ris : Ris L
  good : ∀ x ∈ L, GoodW x
theorem SetRd.ext {w w' : World} {sb c n m : Nat} {a0 : Option Addr} {L : List Wl} (S : SetRd w sb a0 c n L) (hb : Below m w w') (hm : m = w.heap.size) : SetRd w' sb a0 c n L :=
  ⟨S.box.ext hb hm, S.row.ext hb hm, S.len, S.le, S.nc, S.flat, S.nil0, S.ris, S.good⟩
theorem SetRd.pos {w : World} {sb c n : Nat} {a0 : Option Addr} {L : List Wl} (S : SetRd w sb a0 c n L) : ∀ x ∈ L, 0 < x.K := fun x hx => by have := (S.good x hx).k; omega
theorem find_any (sb : Nat) (a0 : Option Addr) (c n : Nat) (L : List Wl) (a b : Pt) (w : World) (S : SetRd w sb a0 c n L) :
    Calls Try.prog 38 #[.pointer (some ⟨sb, 0, none⟩), .agg #[.int .i64 a.x, .int .i64 a.y], .agg #[.int .i64 b.x, .int .i64 b.y]] w fun e w' => e = .returned (.tuple #[.int .i64 (posW L (lo2 a b) (hi2 a b) : Nat), .bool (fnd L (posW L (lo2 a b) (hi2 a b)) (lo2 a b) (hi2 a b))]) ∧ Below w.heap.size w w' :=
  let ⟨h1, h2⟩ := pos_spec S.ris (lo2 a b) (hi2 a b)
  find_some sb a0 c n L S.len S.le a b _ h1 h2 w S.box S.row
theorem begun_any (sb : Nat) (a0 : Option Addr) (c n : Nat) (L : List Wl) (p : Pt) (w : World) (S : SetRd w sb a0 c n L) :
    Calls Try.prog 44 #[.pointer (some ⟨sb, 0, none⟩), .agg #[.int .i64 p.x, .int .i64 p.y]] w fun e w' => e = .returned (.slice a0 (bgL L p).length c) ∧ Below w.heap.size w w' :=
  let ⟨h1, h2, _⟩ := bg_spec S.ris p
  begun_some sb a0 c n L S.len S.le S.nc p _ h1 h2 w S.box S.row
theorem kind_nil (a b : Pt) (w : World) :
    Calls Try.prog 20 #[.pointer none, .agg #[.int .i64 a.x, .int .i64 a.y], .agg #[.int .i64 b.x, .int .i64 b.y]] w fun e w' => e = .returned (.int .i64 0) ∧ Below w.heap.size w w' := by
  go_enter Try.func20, Try.ntmps20
  have c1 := find_nil a b
  go_wp2_with fail
  refine at_call fun W1 hW => ?_
  have Ba : Box W1 (w.heap.size) [.int .i64 a.x, .int .i64 a.y] 33 := by rw [hW]; exact (Box.new rfl).old _
  have Bb : Box W1 (w.heap.size + 1) [.int .i64 b.x, .int .i64 b.y] 33 := by rw [hW]; exact Box.new (by simp)
  have hw : Below w.heap.size w W1 := by rw [hW]; go_grown
  clear hW
  refine (c1 _).mono ?_
  rintro e w2 ⟨rfl, hb⟩
  replace Ba := Ba.ext hb rfl
  replace Bb := Bb.ext hb rfl
  replace hw := hw.trans (hb.mono hw.size)
  clear hb
  obtain ⟨xa, ya, za, va⟩ := Ba.facts
  obtain ⟨xb, yb, zb, vb⟩ := Bb.facts
  go_wp2
  go_ret
  exact ⟨rfl, by have hl := hw.size; go_grown⟩

theorem kind_0 (sb : Nat) (a0 : Option Addr) (c n : Nat) (L : List Wl) (a b : Pt) (hf : (fnd L (posW L (lo2 a b) (hi2 a b)) (lo2 a b) (hi2 a b)) = false) (w : World) (S : SetRd w sb a0 c n L) :
    Calls Try.prog 20 #[.pointer (some ⟨sb, 0, none⟩), .agg #[.int .i64 a.x, .int .i64 a.y], .agg #[.int .i64 b.x, .int .i64 b.y]] w fun e w' => e = .returned (.int .i64 0) ∧ Below w.heap.size w w' := by
  go_enter Try.func20, Try.ntmps20
  have hsb := S.box.lt
  go_wp2_with fail
  refine at_call fun W1 hW => ?_
  have Ba : Box W1 (w.heap.size) [.int .i64 a.x, .int .i64 a.y] 33 := by rw [hW]; exact (Box.new rfl).old _
  have Bb : Box W1 (w.heap.size + 1) [.int .i64 b.x, .int .i64 b.y] 33 := by rw [hW]; exact Box.new (by simp)
  have hw : Below w.heap.size w W1 := by rw [hW]; go_grown
  clear hW
  have SS := S.ext hw rfl
  have BS := SS.box
  have cf := find_any sb a0 c n L a b W1 SS
  rw [hf] at cf
  refine (cf).mono ?_
  rintro e w2 ⟨rfl, hb⟩
  replace Ba := Ba.ext hb rfl
  replace Bb := Bb.ext hb rfl
  replace BS := BS.ext hb rfl
  replace hw := hw.trans (hb.mono hw.size)
  clear hb
  obtain ⟨xa, ya, za, va⟩ := Ba.facts
  obtain ⟨xb, yb, zb, vb⟩ := Bb.facts
  obtain ⟨xS, yS, zS, vS⟩ := BS.facts
  go_wp2
  go_ret
  exact ⟨rfl, by have hl := hw.size; go_grown⟩

theorem kind_1 (sb : Nat) (a0 : Option Addr) (c n : Nat) (L : List Wl) (a b : Pt) (hf : (fnd L (posW L (lo2 a b) (hi2 a b)) (lo2 a b) (hi2 a b)) = true) (m : Nat) (hm0 : posW L (lo2 a b) (hi2 a b) = m) (hm : m < L.length) (X : Wl) (hX : L[m] = X) (w : World) (S : SetRd w sb a0 c n L) :
    Calls Try.prog 20 #[.pointer (some ⟨sb, 0, none⟩), .agg #[.int .i64 a.x, .int .i64 a.y], .agg #[.int .i64 b.x, .int .i64 b.y]] w fun e w' => e = .returned (.int .i64 X.K) ∧ Below w.heap.size w w' := by
  go_enter Try.func20, Try.ntmps20
  have hsb := S.box.lt
  go_wp2_with fail
  refine at_call fun W1 hW => ?_
  have Ba : Box W1 (w.heap.size) [.int .i64 a.x, .int .i64 a.y] 33 := by rw [hW]; exact (Box.new rfl).old _
  have Bb : Box W1 (w.heap.size + 1) [.int .i64 b.x, .int .i64 b.y] 33 := by rw [hW]; exact Box.new (by simp)
  have hw : Below w.heap.size w W1 := by rw [hW]; go_grown
  clear hW
  have SS := S.ext hw rfl
  have BS := SS.box
  have cf := find_any sb a0 c n L a b W1 SS
  rw [hf] at cf
  rw [hm0] at cf
  refine (cf).mono ?_
  rintro e w2 ⟨rfl, hb⟩
  replace Ba := Ba.ext hb rfl
  replace Bb := Bb.ext hb rfl
  replace BS := BS.ext hb rfl
  replace hw := hw.trans (hb.mono hw.size)
  clear hb
  have SS2 := SS.ext (Below.refl _ _) rfl
  obtain ⟨ad, A, ea, eA, hA⟩ := (S.row.ext hw rfl).five (j := m) hm
  have hmn : m < n := by rw [← S.len]; exact hm
  rw [hX] at hA
  obtain ⟨u0, u1, u2, u3, u4, u5⟩ := hA.facts
  subst ea
  clear SS SS2 hA
  obtain ⟨xa, ya, za, va⟩ := Ba.facts
  obtain ⟨xb, yb, zb, vb⟩ := Bb.facts
  obtain ⟨xS, yS, zS, vS⟩ := BS.facts
  go_wp2
  go_ret
  exact ⟨rfl, by have hl := hw.size; go_grown⟩

theorem kind_any (sb : Nat) (a0 : Option Addr) (c n : Nat) (L : List Wl) (a b : Pt) (w : World) (S : SetRd w sb a0 c n L) :
    Calls Try.prog 20 #[.pointer (some ⟨sb, 0, none⟩), .agg #[.int .i64 a.x, .int .i64 a.y], .agg #[.int .i64 b.x, .int .i64 b.y]] w fun e w' => e = .returned (.int .i64 (kindW L (lo2 a b) (hi2 a b))) ∧ Below w.heap.size w w' := by
  cases hf : (fnd L (posW L (lo2 a b) (hi2 a b)) (lo2 a b) (hi2 a b)) with
  | false => rw [kindW_false S.ris hf S.pos]; exact kind_0 sb a0 c n L a b hf w S
  | true =>
    obtain ⟨hm, _⟩ := fnd_true S.ris hf S.pos
    rw [kindW_true S.ris hf S.pos hm]; exact kind_1 sb a0 c n L a b hf _ rfl hm _ rfl w S
theorem len_nil  (w : World) :
    Calls Try.prog 26 #[.pointer none] w fun e w' => e = .returned (.int .i64 0) ∧ Below w.heap.size w w' := by
  go_enter Try.func26, Try.ntmps26
  go_wp2
  go_ret
  exact ⟨rfl, Below.refl _ _⟩

theorem len_any (sb : Nat) (a0 : Option Addr) (c n : Nat) (L : List Wl) (w : World) (S : SetRd w sb a0 c n L) :
    Calls Try.prog 26 #[.pointer (some ⟨sb, 0, none⟩)] w fun e w' => e = .returned (.int .i64 L.length) ∧ Below w.heap.size w w' := by
  go_enter Try.func26, Try.ntmps26
  obtain ⟨xs, ys, zs, vs⟩ := S.box.facts
  have HN := Lib.hid S.len
  go_wp2
  go_ret
  exact ⟨by rw [HN.out]; rfl, Below.refl _ _⟩

theorem all_any (sb : Nat) (a0 : Option Addr) (c n : Nat) (L : List Wl) (w : World) (S : SetRd w sb a0 c n L) :
    Calls Try.prog 25 #[.pointer (some ⟨sb, 0, none⟩)] w fun e w' => ∃ v', e = .returned v' ∧ WRow w' w.heap.size v' L ∧ Below w.heap.size w w' := by
  go_enter Try.func25, Try.ntmps25
  obtain ⟨xs, ys, zs, vs⟩ := S.box.facts
  have cc := cloneW_any a0 c L S.le w S.row S.flat S.nil0
  rw [S.len] at cc
  go_wp2_with fail
  refine cc.mono ?_
  rintro e w1 ⟨v', rfl, ho, hb⟩
  go_wp2
  go_ret
  exact ⟨v', rfl, ho, hb⟩

def clashW (L : List Wl) (a b : Pt) : Int := if mkOk a b 1 = true then (if kindW L (lo2 a b) (hi2 a b) = 0 then (if (bgL L (hi2 a b)).any (fun x => bar1 x ⟨lo2 a b, hi2 a b, 1⟩) then 7 else 0) else 5) else 2
theorem clash_nil (a b : Pt) (w : World) :
    Calls Try.prog 18 #[.pointer none, .agg #[.int .i64 a.x, .int .i64 a.y], .agg #[.int .i64 b.x, .int .i64 b.y]] w fun e w' => e = .returned (.int .i64 2) ∧ Below w.heap.size w w' := by
  go_enter Try.func18, Try.ntmps18
  have c1 := make_any a b 1
  go_wp2_with fail
  refine at_call fun W1 hW => ?_
  have Ba : Box W1 (w.heap.size) [.int .i64 a.x, .int .i64 a.y] 33 := by rw [hW]; exact (Box.new rfl).old _
  have Bb : Box W1 (w.heap.size + 1) [.int .i64 b.x, .int .i64 b.y] 33 := by rw [hW]; exact Box.new (by simp)
  have hw : Below w.heap.size w W1 := by rw [hW]; go_grown
  clear hW
  refine (c1 _).mono ?_
  rintro e w2 ⟨rfl, hb⟩
  replace Ba := Ba.ext hb rfl
  replace Bb := Bb.ext hb rfl
  replace hw := hw.trans (hb.mono hw.size)
  clear hb
  obtain ⟨xa, ya, za, va⟩ := Ba.facts
  obtain ⟨xb, yb, zb, vb⟩ := Bb.facts
  go_wp2
  go_ret
  exact ⟨rfl, by have hl := hw.size; go_grown⟩

set_option maxHeartbeats 1000000 in
theorem clash_0 (sb : Nat) (a0 : Option Addr) (c n : Nat) (L : List Wl) (a b : Pt) (ho : mkOk a b 1 = false) (w : World) (S : SetRd w sb a0 c n L) :
    Calls Try.prog 18 #[.pointer (some ⟨sb, 0, none⟩), .agg #[.int .i64 a.x, .int .i64 a.y], .agg #[.int .i64 b.x, .int .i64 b.y]] w fun e w' => e = .returned (.int .i64 2) ∧ Below w.heap.size w w' := by
  go_enter Try.func18, Try.ntmps18
  have hsb := S.box.lt
  have c1 := make_any a b 1
  rw [ho] at c1
  go_wp2_with fail
  refine at_call fun W1 hW => ?_
  have Ba : Box W1 (w.heap.size) [.int .i64 a.x, .int .i64 a.y] 33 := by rw [hW]; exact (Box.new rfl).old _
  have Bb : Box W1 (w.heap.size + 1) [.int .i64 b.x, .int .i64 b.y] 33 := by rw [hW]; exact Box.new (by simp)
  have hw : Below w.heap.size w W1 := by rw [hW]; go_grown
  clear hW
  refine (c1 _).mono ?_
  rintro e w2 ⟨rfl, hb⟩
  replace Ba := Ba.ext hb rfl
  replace Bb := Bb.ext hb rfl
  replace hw := hw.trans (hb.mono hw.size)
  clear hb
  obtain ⟨xa, ya, za, va⟩ := Ba.facts
  obtain ⟨xb, yb, zb, vb⟩ := Bb.facts
  go_wp2
  go_ret
  exact ⟨rfl, by have hl := hw.size; go_grown⟩

set_option maxHeartbeats 1000000 in
theorem clash_1 (sb : Nat) (a0 : Option Addr) (c n : Nat) (L : List Wl) (a b : Pt) (ho : mkOk a b 1 = true) (hk : (kindW L (lo2 a b) (hi2 a b) != 0) = true) (w : World) (S : SetRd w sb a0 c n L) :
    Calls Try.prog 18 #[.pointer (some ⟨sb, 0, none⟩), .agg #[.int .i64 a.x, .int .i64 a.y], .agg #[.int .i64 b.x, .int .i64 b.y]] w fun e w' => e = .returned (.int .i64 5) ∧ Below w.heap.size w w' := by
  go_enter Try.func18, Try.ntmps18
  have hsb := S.box.lt
  have c1 := make_any a b 1
  rw [ho] at c1
  go_wp2_with fail
  refine at_call fun W1 hW => ?_
  have Ba : Box W1 (w.heap.size) [.int .i64 a.x, .int .i64 a.y] 33 := by rw [hW]; exact (Box.new rfl).old _
  have Bb : Box W1 (w.heap.size + 1) [.int .i64 b.x, .int .i64 b.y] 33 := by rw [hW]; exact Box.new (by simp)
  have hw : Below w.heap.size w W1 := by rw [hW]; go_grown
  clear hW
  refine (c1 _).mono ?_
  rintro e w2 ⟨rfl, hb⟩
  replace Ba := Ba.ext hb rfl
  replace Bb := Bb.ext hb rfl
  replace hw := hw.trans (hb.mono hw.size)
  clear hb
  obtain ⟨xa, ya, za, va⟩ := Ba.facts
  obtain ⟨xb, yb, zb, vb⟩ := Bb.facts
  go_wp2_with fail
  clear xa ya za va xb yb zb vb
  refine at_call fun W3 hW => ?_
  obtain ⟨bkv, hbv⟩ : ∃ b, w2.heap.size = b := ⟨_, rfl⟩
  rw [hbv]
  have lav := Ba.lt
  rw [hbv] at lav
  have lbv := Bb.lt
  rw [hbv] at lbv
  have fv := hw.size
  rw [hbv] at fv
  have Bv : Box W3 bkv [.int .i64 (mkW a b 1).A.x, .int .i64 (mkW a b 1).A.y, .int .i64 (mkW a b 1).B.x, .int .i64 (mkW a b 1).B.y, .int .i64 (mkW a b 1).K] 35 := by rw [hW]; exact Box.new hbv.symm
  replace Ba : Box W3 (w.heap.size) [.int .i64 a.x, .int .i64 a.y] 33 := by rw [hW]; exact Ba.old _
  replace Bb : Box W3 (w.heap.size + 1) [.int .i64 b.x, .int .i64 b.y] 33 := by rw [hW]; exact Bb.old _
  replace hw : Below w.heap.size w W3 := by have hl := hw.size; rw [hW]; go_grown
  clear hW hbv
  have SS := S.ext hw rfl
  have ck := kind_any sb a0 c n L a b W3 SS
  generalize kindW L (lo2 a b) (hi2 a b) = kk at *
  refine (ck).mono ?_
  rintro e w4 ⟨rfl, hb⟩
  replace Ba := Ba.ext hb rfl
  replace Bb := Bb.ext hb rfl
  replace Bv := Bv.ext hb rfl
  replace hw := hw.trans (hb.mono hw.size)
  clear hb
  obtain ⟨xa, ya, za, va⟩ := Ba.facts
  obtain ⟨xb, yb, zb, vb⟩ := Bb.facts
  obtain ⟨xv, yv, zv, vv⟩ := Bv.facts
  go_wp2
  go_ret
  exact ⟨rfl, by have hl := hw.size; go_grown⟩

set_option maxHeartbeats 1000000 in
theorem clash_2 (sb : Nat) (a0 : Option Addr) (c n : Nat) (L : List Wl) (a b : Pt) (ho : mkOk a b 1 = true) (hk : (kindW L (lo2 a b) (hi2 a b) != 0) = false) (hx7 : (bgL L (hi2 a b)).any (fun x => bar1 x ⟨lo2 a b, hi2 a b, 1⟩) = true) (w : World) (S : SetRd w sb a0 c n L) :
    Calls Try.prog 18 #[.pointer (some ⟨sb, 0, none⟩), .agg #[.int .i64 a.x, .int .i64 a.y], .agg #[.int .i64 b.x, .int .i64 b.y]] w fun e w' => e = .returned (.int .i64 7) ∧ Below w.heap.size w w' := by
  go_enter Try.func18, Try.ntmps18
  have hsb := S.box.lt
  have c1 := make_any a b 1
  rw [ho] at c1
  go_wp2_with fail
  refine at_call fun W1 hW => ?_
  have Ba : Box W1 (w.heap.size) [.int .i64 a.x, .int .i64 a.y] 33 := by rw [hW]; exact (Box.new rfl).old _
  have Bb : Box W1 (w.heap.size + 1) [.int .i64 b.x, .int .i64 b.y] 33 := by rw [hW]; exact Box.new (by simp)
  have hw : Below w.heap.size w W1 := by rw [hW]; go_grown
  clear hW
  refine (c1 _).mono ?_
  rintro e w2 ⟨rfl, hb⟩
  replace Ba := Ba.ext hb rfl
  replace Bb := Bb.ext hb rfl
  replace hw := hw.trans (hb.mono hw.size)
  clear hb
  obtain ⟨xa, ya, za, va⟩ := Ba.facts
  obtain ⟨xb, yb, zb, vb⟩ := Bb.facts
  go_wp2_with fail
  clear xa ya za va xb yb zb vb
  refine at_call fun W3 hW => ?_
  obtain ⟨bkv, hbv⟩ : ∃ b, w2.heap.size = b := ⟨_, rfl⟩
  rw [hbv]
  have lav := Ba.lt
  rw [hbv] at lav
  have lbv := Bb.lt
  rw [hbv] at lbv
  have fv := hw.size
  rw [hbv] at fv
  have Bv : Box W3 bkv [.int .i64 (mkW a b 1).A.x, .int .i64 (mkW a b 1).A.y, .int .i64 (mkW a b 1).B.x, .int .i64 (mkW a b 1).B.y, .int .i64 (mkW a b 1).K] 35 := by rw [hW]; exact Box.new hbv.symm
  replace Ba : Box W3 (w.heap.size) [.int .i64 a.x, .int .i64 a.y] 33 := by rw [hW]; exact Ba.old _
  replace Bb : Box W3 (w.heap.size + 1) [.int .i64 b.x, .int .i64 b.y] 33 := by rw [hW]; exact Bb.old _
  replace hw : Below w.heap.size w W3 := by have hl := hw.size; rw [hW]; go_grown
  clear hW hbv
  have SS := S.ext hw rfl
  have ck := kind_any sb a0 c n L a b W3 SS
  generalize kindW L (lo2 a b) (hi2 a b) = kk at *
  refine (ck).mono ?_
  rintro e w4 ⟨rfl, hb⟩
  replace Ba := Ba.ext hb rfl
  replace Bb := Bb.ext hb rfl
  replace Bv := Bv.ext hb rfl
  replace hw := hw.trans (hb.mono hw.size)
  clear hb
  obtain ⟨xa, ya, za, va⟩ := Ba.facts
  obtain ⟨xb, yb, zb, vb⟩ := Bb.facts
  obtain ⟨xv, yv, zv, vv⟩ := Bv.facts
  rw [show mkW a b 1 = ⟨lo2 a b, hi2 a b, 1⟩ by unfold mkW; rw [ho]; rfl] at *
  generalize lo2 a b = p at *
  generalize hi2 a b = q at *
  go_wp2_with fail
  clear xa ya za va xb yb zb vb xv yv zv vv
  have cc : ∀ d os, Calls Try.prog 44 #[.pointer (some ⟨sb, 0, none⟩), .agg #[.int .i64 q.x, .int .i64 q.y]] (grow (redrawn w4 d) os) fun e w' => e = .returned (.slice a0 (bgL L q).length c) ∧ Below (grow (redrawn w4 d) os).heap.size (grow (redrawn w4 d) os) w' := fun d os => begun_any sb a0 c n L q _ ((S.ext hw rfl).ext (below_regrown w4 d os) rfl)
  obtain ⟨_, hb2, hb3⟩ := bg_spec S.ris q
  have hLb : (bgL L q).length ≤ 1000000 := Nat.le_trans hb2 S.le
  have hR : ∀ W, Below w.heap.size w W → RowAt cW 5 W a0 (bgL L q) := fun W hW => by rw [← hb3]; exact (S.row.ext hW rfl).take _
  generalize bgL L q = L2 at *
  have ga := Ba.cells
  have gb := Bb.cells
  have gv := Bv.cells
  refine wp_region_tail 5 (by kernel_rfl) (by kernel_rfl) (C := fun w' => ∃ p : Regrown, w' = grow (redrawn w4 p.d) p.os) (fun w' h => regrown_of_below h) ?_
  simp only [List.take_succ_cons, List.take_zero, List.drop_succ_cons, List.drop_zero]
  repeat (first | (refine rWalk_skip (Eq.refl false) ?_; simp only [Act.put, List.setIfInBounds_toArray, List.set_cons_succ, List.set_cons_zero]) | (refine rWalk_step (fun K hK => ?_); go_simp; first | (refine hK _ ?_; clear hK K) | (apply Exists.intro; refine ⟨fun _ => ?_, hK _ ?_⟩; (first | with_reducible exact toExt2 cc _ _); clear hK K)))
  refine rWalk_nil ?_
  intro w5 hb
  clear ga gb gv
  replace Ba := Ba.ext hb rfl
  replace Bb := Bb.ext hb rfl
  replace Bv := Bv.ext hb rfl
  replace hw := hw.trans (hb.mono hw.size)
  obtain ⟨xa, ya, za, va⟩ := Ba.facts
  obtain ⟨xb, yb, zb, vb⟩ := Bb.facts
  obtain ⟨xv, yv, zv, vv⟩ := Bv.facts
  go_wp2_with fail
  clear xa ya za va xb yb zb vb xv yv zv vv
  have cb := bars_any ⟨p, q, 1⟩ a0 c L2.length L2 rfl hLb S.flat _ (hR _ hw)
  rw [hx7] at cb
  refine (cb).mono ?_
  rintro e w6 ⟨rfl, hb⟩
  replace Ba := Ba.ext hb rfl
  replace Bb := Bb.ext hb rfl
  replace Bv := Bv.ext hb rfl
  replace hw := hw.trans (hb.mono hw.size)
  clear hb
  obtain ⟨xa, ya, za, va⟩ := Ba.facts
  obtain ⟨xb, yb, zb, vb⟩ := Bb.facts
  obtain ⟨xv, yv, zv, vv⟩ := Bv.facts
  go_wp2
  go_ret
  exact ⟨rfl, by have hl := hw.size; go_grown⟩

set_option maxHeartbeats 1000000 in
theorem clash_3 (sb : Nat) (a0 : Option Addr) (c n : Nat) (L : List Wl) (a b : Pt) (ho : mkOk a b 1 = true) (hk : (kindW L (lo2 a b) (hi2 a b) != 0) = false) (hx7 : (bgL L (hi2 a b)).any (fun x => bar1 x ⟨lo2 a b, hi2 a b, 1⟩) = false) (w : World) (S : SetRd w sb a0 c n L) :
    Calls Try.prog 18 #[.pointer (some ⟨sb, 0, none⟩), .agg #[.int .i64 a.x, .int .i64 a.y], .agg #[.int .i64 b.x, .int .i64 b.y]] w fun e w' => e = .returned (.int .i64 0) ∧ Below w.heap.size w w' := by
  go_enter Try.func18, Try.ntmps18
  have hsb := S.box.lt
  have c1 := make_any a b 1
  rw [ho] at c1
  go_wp2_with fail
  refine at_call fun W1 hW => ?_
  have Ba : Box W1 (w.heap.size) [.int .i64 a.x, .int .i64 a.y] 33 := by rw [hW]; exact (Box.new rfl).old _
  have Bb : Box W1 (w.heap.size + 1) [.int .i64 b.x, .int .i64 b.y] 33 := by rw [hW]; exact Box.new (by simp)
  have hw : Below w.heap.size w W1 := by rw [hW]; go_grown
  clear hW
  refine (c1 _).mono ?_
  rintro e w2 ⟨rfl, hb⟩
  replace Ba := Ba.ext hb rfl
  replace Bb := Bb.ext hb rfl
  replace hw := hw.trans (hb.mono hw.size)
  clear hb
  obtain ⟨xa, ya, za, va⟩ := Ba.facts
  obtain ⟨xb, yb, zb, vb⟩ := Bb.facts
  go_wp2_with fail
  clear xa ya za va xb yb zb vb
  refine at_call fun W3 hW => ?_
  obtain ⟨bkv, hbv⟩ : ∃ b, w2.heap.size = b := ⟨_, rfl⟩
  rw [hbv]
  have lav := Ba.lt
  rw [hbv] at lav
  have lbv := Bb.lt
  rw [hbv] at lbv
  have fv := hw.size
  rw [hbv] at fv
  have Bv : Box W3 bkv [.int .i64 (mkW a b 1).A.x, .int .i64 (mkW a b 1).A.y, .int .i64 (mkW a b 1).B.x, .int .i64 (mkW a b 1).B.y, .int .i64 (mkW a b 1).K] 35 := by rw [hW]; exact Box.new hbv.symm
  replace Ba : Box W3 (w.heap.size) [.int .i64 a.x, .int .i64 a.y] 33 := by rw [hW]; exact Ba.old _
  replace Bb : Box W3 (w.heap.size + 1) [.int .i64 b.x, .int .i64 b.y] 33 := by rw [hW]; exact Bb.old _
  replace hw : Below w.heap.size w W3 := by have hl := hw.size; rw [hW]; go_grown
  clear hW hbv
  have SS := S.ext hw rfl
  have ck := kind_any sb a0 c n L a b W3 SS
  generalize kindW L (lo2 a b) (hi2 a b) = kk at *
  refine (ck).mono ?_
  rintro e w4 ⟨rfl, hb⟩
  replace Ba := Ba.ext hb rfl
  replace Bb := Bb.ext hb rfl
  replace Bv := Bv.ext hb rfl
  replace hw := hw.trans (hb.mono hw.size)
  clear hb
  obtain ⟨xa, ya, za, va⟩ := Ba.facts
  obtain ⟨xb, yb, zb, vb⟩ := Bb.facts
  obtain ⟨xv, yv, zv, vv⟩ := Bv.facts
  rw [show mkW a b 1 = ⟨lo2 a b, hi2 a b, 1⟩ by unfold mkW; rw [ho]; rfl] at *
  generalize lo2 a b = p at *
  generalize hi2 a b = q at *
  go_wp2_with fail
  clear xa ya za va xb yb zb vb xv yv zv vv
  have cc : ∀ d os, Calls Try.prog 44 #[.pointer (some ⟨sb, 0, none⟩), .agg #[.int .i64 q.x, .int .i64 q.y]] (grow (redrawn w4 d) os) fun e w' => e = .returned (.slice a0 (bgL L q).length c) ∧ Below (grow (redrawn w4 d) os).heap.size (grow (redrawn w4 d) os) w' := fun d os => begun_any sb a0 c n L q _ ((S.ext hw rfl).ext (below_regrown w4 d os) rfl)
  obtain ⟨_, hb2, hb3⟩ := bg_spec S.ris q
  have hLb : (bgL L q).length ≤ 1000000 := Nat.le_trans hb2 S.le
  have hR : ∀ W, Below w.heap.size w W → RowAt cW 5 W a0 (bgL L q) := fun W hW => by rw [← hb3]; exact (S.row.ext hW rfl).take _
  generalize bgL L q = L2 at *
  have ga := Ba.cells
  have gb := Bb.cells
  have gv := Bv.cells
  refine wp_region_tail 5 (by kernel_rfl) (by kernel_rfl) (C := fun w' => ∃ p : Regrown, w' = grow (redrawn w4 p.d) p.os) (fun w' h => regrown_of_below h) ?_
  simp only [List.take_succ_cons, List.take_zero, List.drop_succ_cons, List.drop_zero]
  repeat (first | (refine rWalk_skip (Eq.refl false) ?_; simp only [Act.put, List.setIfInBounds_toArray, List.set_cons_succ, List.set_cons_zero]) | (refine rWalk_step (fun K hK => ?_); go_simp; first | (refine hK _ ?_; clear hK K) | (apply Exists.intro; refine ⟨fun _ => ?_, hK _ ?_⟩; (first | with_reducible exact toExt2 cc _ _); clear hK K)))
  refine rWalk_nil ?_
  intro w5 hb
  clear ga gb gv
  replace Ba := Ba.ext hb rfl
  replace Bb := Bb.ext hb rfl
  replace Bv := Bv.ext hb rfl
  replace hw := hw.trans (hb.mono hw.size)
  obtain ⟨xa, ya, za, va⟩ := Ba.facts
  obtain ⟨xb, yb, zb, vb⟩ := Bb.facts
  obtain ⟨xv, yv, zv, vv⟩ := Bv.facts
  go_wp2_with fail
  clear xa ya za va xb yb zb vb xv yv zv vv
  have cb := bars_any ⟨p, q, 1⟩ a0 c L2.length L2 rfl hLb S.flat _ (hR _ hw)
  rw [hx7] at cb
  refine (cb).mono ?_
  rintro e w6 ⟨rfl, hb⟩
  replace Ba := Ba.ext hb rfl
  replace Bb := Bb.ext hb rfl
  replace Bv := Bv.ext hb rfl
  replace hw := hw.trans (hb.mono hw.size)
  clear hb
  obtain ⟨xa, ya, za, va⟩ := Ba.facts
  obtain ⟨xb, yb, zb, vb⟩ := Bb.facts
  obtain ⟨xv, yv, zv, vv⟩ := Bv.facts
  go_wp2
  go_ret
  exact ⟨rfl, by have hl := hw.size; go_grown⟩

theorem clash_any (sb : Nat) (a0 : Option Addr) (c n : Nat) (L : List Wl) (a b : Pt) (w : World) (S : SetRd w sb a0 c n L) :
    Calls Try.prog 18 #[.pointer (some ⟨sb, 0, none⟩), .agg #[.int .i64 a.x, .int .i64 a.y], .agg #[.int .i64 b.x, .int .i64 b.y]] w fun e w' => e = .returned (.int .i64 (clashW L a b)) ∧ Below w.heap.size w w' := by
  unfold clashW
  cases ho : mkOk a b 1 with
  | false => rw [if_neg (by simp)]; exact clash_0 sb a0 c n L a b ho w S
  | true =>
    rw [if_pos rfl]
    cases hk : kindW L (lo2 a b) (hi2 a b) != 0 with
    | true => rw [if_neg (by simpa using hk)]; exact clash_1 sb a0 c n L a b ho hk w S
    | false =>
      rw [if_pos (by simpa using hk)]
      cases hb : (bgL L (hi2 a b)).any (fun x => bar1 x ⟨lo2 a b, hi2 a b, 1⟩) with
      | true => rw [if_pos rfl]; exact clash_2 sb a0 c n L a b ho hk hb w S
      | false => rw [if_neg (by simp)]; exact clash_3 sb a0 c n L a b ho hk hb w S
def endW (p : Pt) (x : Wl) : Bool := decide (x.A = p) || decide (x.B = p)
theorem endW_eq (p : Pt) (x : Wl) : endW p x = (peqI x.A.x x.A.y p.x p.y || peqI x.B.x x.B.y p.x p.y) := by rw [peqI_dec, peqI_dec]; rfl
/-- One wall appended to a row of the call's own. -/
theorem append_wl {w : World} {ops : Array Oper} {rest : List Oper} {o : Oper} {a : Act} {Q : Exit → Act → World → Prop} (hgd : o.guard = none) (s x : Operand)
    (ho : o.op = .call { callee := .builtin .append, args := #[s, x], argTypes := #[22, 22] })
    (B : Nat) (v : Value) (L : List Wl) (hs : a.eval s = v) (hown : WRow w B v L)
    (bx : Nat) (X : Wl) (hx : a.eval x = .slice (some ⟨bx, 0, none⟩) 1 1) (hbx : Box w bx (cW X) 35) (hn : L.length ≤ 1000000) (hbase : B ≤ w.heap.size)
    (h : ∀ w' v', WRow w' B v' (L ++ [X]) → w.grownBy w' v.ownBlock → v' ≠ .slice none 0 0 → wpList Try.prog ops Q rest (a.put o.dst v') w') : wpList Try.prog ops Q (o :: rest) a w := by
  obtain ⟨i0, hi, hz0, hz1, hz2⟩ := info_parts info_wall
  refine wpList_append_own w hgd s x 22 ho B 35 i0 _ 5 40 Try.underlying22 hi hz0 hz1 hz2 rfl (by decide) v L.length _ hs hown ⟨bx, 0, none⟩ 1 1 (cW X) hx rfl ?_ (cW_one X) ?_ ?_ hbase ?_
  · intro j u hj
    have := hbx.facts.1 j
    rw [hj] at this
    rw [Addr.add_lit, Nat.zero_add]
    exact this
  · unfold maxLen; omega
  · omega
  · intro v' w' hown' hg hnil
    refine h w' v' ?_ hg (fun e => by have := (hnil.1 e).2; omega)
    unfold WRow
    rw [List.length_append, List.length_singleton, List.flatMap_append]
    simpa using hown'
end Go.Proofs.Ytnocdecimcpkfaa
