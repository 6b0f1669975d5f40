/- Put together: WalR, WalS, ExS, WalU. -/
import Derived.Test.YtnocdecimcpkfaaRows
import Derived.Test.YtnocdecimcpkfaaPut21
import Derived.Test.YtnocdecimcpkfaaPut1
import Derived.WalkKit
import Derived.WalkSpells
import Derived.WalkLawsBesides
import Derived.Laws.Externs
import Derived.Deep.QuietTactic
import Derived.BigQuiet
import Derived.Lib.Hide
import Derived.Handy
import Derived.OwnWalk
import Derived.LoopN
import Derived.RegionTactic
import Derived.Test.YtnocdecimcpkfaaPut13
namespace Go.Proofs.Ytnocdecimcpkfaa
open Go.RowKit Go.Sort Go.Lib
attribute [local go_sem] rOper rAt rUpon cell_set sg_i64 sg_u64 alloc_cell alloc_frozen
attribute [local go_sem 10000] pt_eql pt_neq wal_eql wal_neq
attribute [local irreducible] rWalk

theorem unm_enter : ∀ args w, (callFunc 33 args).run Try.prog w = .ok (.enter 33 args) w := enters_of Try.func33 (by kernel_rfl) rfl
theorem unm_pred (w : World) : PredBelow Try.prog 33 #[] (fun x => .agg (cW x).toArray) unm w := fun W x hb =>
  (unm_any x W).mono fun _ _ ⟨he, hx⟩ => ⟨he, hb.trans (hx.mono hb.size)⟩
theorem new_bad (a : Option Addr) (c : Nat) (L : List Wl) (hL : L.length < 1000000) (hf : Flat a) (hu : L.any unm = true) (w : World) (h : RowAt cW 5 w a L) :
    Calls Try.prog 8 #[.slice a L.length c] w fun e w' => e = .returned (.tuple #[.pointer none, .int .i64 2]) ∧ Below w.heap.size w w' := by
  go_enter Try.func8, Try.ntmps8
  have c1 := conW_any unm _ #[] unm_enter a c L (by omega) w h hf (unm_pred w)
  rw [hu] at c1
  generalize L.length = n at *
  go_wp2_with fail
  refine c1.mono ?_
  rintro e w1 ⟨rfl, hb⟩
  go_wp2_with fail
  refine bodyPost_ret (v := .tuple #[.pointer none, .int .i64 2]) (by simp [results, Try.results8, go_sem]) rfl ⟨rfl, hb⟩

theorem new_twice (a : Option Addr) (c : Nat) (L : List Wl) (hL : L.length < 1000000) (hf : Flat a) (hz : a = none → L = []) (S : List Wl) (hS : srt cmpW L = S) (b1 : Bool) (h1 : b1 = true) (hb1 : b1 = true ↔ ∃ (i : Nat) (h : i + 1 < S.length), adjB S[i] S[i + 1] = true) (b2 : Bool) (hb2 : b2 = true ↔ ∃ (k : Nat) (h : k < S.length), hitB (S.take k) S[k] = true) (hu : L.any unm = false) (w : World) (h : RowAt cW 5 w a L) :
    Calls Try.prog 8 #[.slice a L.length c] w fun e w' => e = .returned (.tuple #[.pointer none, .int .i64 5]) ∧ Below w.heap.size w w' := by
  go_enter Try.func8, Try.ntmps8
  have c1 := conW_any unm _ #[] unm_enter a c L (by omega) w h hf (unm_pred w)
  rw [hu] at c1
  have hlen : (srt cmpW L).length = L.length := (srt_perm (c := cmpW) L).length_eq
  rw [hS] at hlen
  have c2 := fun (W : World) (hW : Below w.heap.size w W) => cloneW_any a c L (by omega) W (h.ext hW rfl) hf hz
  have c3 := fun (v : Value) (W : World) (hr : WRow W w.heap.size v L) => sortW_any w.heap.size v L (by omega) W hr
  rw [hS] at c3
  have hSL : S.length < 1000000 := by omega
  have HLE := Lib.hid hlen
  generalize L.length = n at *
  clear hL h hf hz
  go_wp2_with fail
  refine c1.mono ?_
  rintro e w1 ⟨rfl, hw1⟩
  go_wp2_with fail
  refine (c2 w1 hw1).mono ?_
  rintro e w2 ⟨v2, rfl, hr2, hb2'⟩
  have hw2 := hw1.trans (hb2'.mono hw1.size)
  have hr2' := hr2.base hw1.size
  go_wp2_with fail
  refine (c3 v2 w2 hr2').mono ?_
  rintro e w3 ⟨rfl, hg3, hr3⟩
  have hw3 : Below w.heap.size w w3 := (Frm.of_below hw2 (p := fun _ => False)).trans2 (Frm.of_grown hg3 (p := fun k => v2.ownBlock = some k) (fun g e => e)) (fun k e hk => by have := (hr2.lt k e).1; have := hw1.size; omega) |>.below (fun k e => e.elim) (Nat.le_refl _)
  obtain ⟨a3, n3, hv3, hr3a, hf3⟩ := hr3.row
  have c4 := fun (W : World) (hW : Below w3.heap.size w3 W) => twice_any a3 n3 S (by omega) b1 hb1 W (hr3a.ext hW rfl)
  have c5 := fun (W : World) (hW : Below w3.heap.size w3 W) => tangled_any a3 n3 S (by omega) b2 hb2 W (hr3a.ext hW rfl)
  simp only [← hv3] at c4 c5
  clear hr2 hr2' hg3 c1 c2 c3 hb2' hr3a hf3
  obtain ⟨av, nv, cv, rfl⟩ := hr3.form
  clear hv3
  go_wp2_with fail
  rw [h1] at c4
  refine (c4 w3 (Below.refl _ _)).mono ?_
  rintro e w4 ⟨rfl, hb4⟩
  go_wp2_with fail
  refine bodyPost_ret (v := .tuple #[.pointer none, .int .i64 5]) (by simp [results, Try.results8, go_sem]) rfl ⟨rfl, hw3.trans (hb4.mono hw3.size)⟩

theorem new_tang (a : Option Addr) (c : Nat) (L : List Wl) (hL : L.length < 1000000) (hf : Flat a) (hz : a = none → L = []) (S : List Wl) (hS : srt cmpW L = S) (b1 : Bool) (h1 : b1 = false) (hb1 : b1 = true ↔ ∃ (i : Nat) (h : i + 1 < S.length), adjB S[i] S[i + 1] = true) (b2 : Bool) (h2 : b2 = true) (hb2 : b2 = true ↔ ∃ (k : Nat) (h : k < S.length), hitB (S.take k) S[k] = true) (hu : L.any unm = false) (w : World) (h : RowAt cW 5 w a L) :
    Calls Try.prog 8 #[.slice a L.length c] w fun e w' => e = .returned (.tuple #[.pointer none, .int .i64 7]) ∧ Below w.heap.size w w' := by
  go_enter Try.func8, Try.ntmps8
  have c1 := conW_any unm _ #[] unm_enter a c L (by omega) w h hf (unm_pred w)
  rw [hu] at c1
  have hlen : (srt cmpW L).length = L.length := (srt_perm (c := cmpW) L).length_eq
  rw [hS] at hlen
  have c2 := fun (W : World) (hW : Below w.heap.size w W) => cloneW_any a c L (by omega) W (h.ext hW rfl) hf hz
  have c3 := fun (v : Value) (W : World) (hr : WRow W w.heap.size v L) => sortW_any w.heap.size v L (by omega) W hr
  rw [hS] at c3
  have hSL : S.length < 1000000 := by omega
  have HLE := Lib.hid hlen
  generalize L.length = n at *
  clear hL h hf hz
  go_wp2_with fail
  refine c1.mono ?_
  rintro e w1 ⟨rfl, hw1⟩
  go_wp2_with fail
  refine (c2 w1 hw1).mono ?_
  rintro e w2 ⟨v2, rfl, hr2, hb2'⟩
  have hw2 := hw1.trans (hb2'.mono hw1.size)
  have hr2' := hr2.base hw1.size
  go_wp2_with fail
  refine (c3 v2 w2 hr2').mono ?_
  rintro e w3 ⟨rfl, hg3, hr3⟩
  have hw3 : Below w.heap.size w w3 := (Frm.of_below hw2 (p := fun _ => False)).trans2 (Frm.of_grown hg3 (p := fun k => v2.ownBlock = some k) (fun g e => e)) (fun k e hk => by have := (hr2.lt k e).1; have := hw1.size; omega) |>.below (fun k e => e.elim) (Nat.le_refl _)
  obtain ⟨a3, n3, hv3, hr3a, hf3⟩ := hr3.row
  have c4 := fun (W : World) (hW : Below w3.heap.size w3 W) => twice_any a3 n3 S (by omega) b1 hb1 W (hr3a.ext hW rfl)
  have c5 := fun (W : World) (hW : Below w3.heap.size w3 W) => tangled_any a3 n3 S (by omega) b2 hb2 W (hr3a.ext hW rfl)
  simp only [← hv3] at c4 c5
  clear hr2 hr2' hg3 c1 c2 c3 hb2' hr3a hf3
  obtain ⟨av, nv, cv, rfl⟩ := hr3.form
  clear hv3
  go_wp2_with fail
  rw [h1] at c4
  rw [h2] at c5
  refine (c4 w3 (Below.refl _ _)).mono ?_
  rintro e w4 ⟨rfl, hb4⟩
  go_wp2_with fail
  refine (c5 w4 hb4).mono ?_
  rintro e w5 ⟨rfl, hb5⟩
  have hw5 := hw3.trans ((hb4.trans (hb5.mono hb4.size)).mono hw3.size)
  go_wp2_with fail
  refine bodyPost_ret (v := .tuple #[.pointer none, .int .i64 7]) (by simp [results, Try.results8, go_sem]) rfl ⟨rfl, hw5⟩

theorem new_ok (a : Option Addr) (c : Nat) (L : List Wl) (hL : L.length < 1000000) (hf : Flat a) (hz : a = none → L = []) (S : List Wl) (hS : srt cmpW L = S) (b1 : Bool) (h1 : b1 = false) (hb1 : b1 = true ↔ ∃ (i : Nat) (h : i + 1 < S.length), adjB S[i] S[i + 1] = true) (b2 : Bool) (h2 : b2 = false) (hb2 : b2 = true ↔ ∃ (k : Nat) (h : k < S.length), hitB (S.take k) S[k] = true) (hu : L.any unm = false) (w : World) (h : RowAt cW 5 w a L) :
    Calls Try.prog 8 #[.slice a L.length c] w fun e w' => ∃ sb v, e = .returned (.tuple #[.pointer (some ⟨sb, 0, none⟩), .int .i64 0]) ∧ Box w' sb [v] 64 ∧ WRow w' w.heap.size v S ∧ w.heap.size ≤ sb ∧ v.ownBlock ≠ some sb ∧ Below w.heap.size w w' := by
  go_enter Try.func8, Try.ntmps8
  have c1 := conW_any unm _ #[] unm_enter a c L (by omega) w h hf (unm_pred w)
  rw [hu] at c1
  have hlen : (srt cmpW L).length = L.length := (srt_perm (c := cmpW) L).length_eq
  rw [hS] at hlen
  have c2 := fun (W : World) (hW : Below w.heap.size w W) => cloneW_any a c L (by omega) W (h.ext hW rfl) hf hz
  have c3 := fun (v : Value) (W : World) (hr : WRow W w.heap.size v L) => sortW_any w.heap.size v L (by omega) W hr
  rw [hS] at c3
  have hSL : S.length < 1000000 := by omega
  have HLE := Lib.hid hlen
  generalize L.length = n at *
  clear hL h hf hz
  go_wp2_with fail
  refine c1.mono ?_
  rintro e w1 ⟨rfl, hw1⟩
  go_wp2_with fail
  refine (c2 w1 hw1).mono ?_
  rintro e w2 ⟨v2, rfl, hr2, hb2'⟩
  have hw2 := hw1.trans (hb2'.mono hw1.size)
  have hr2' := hr2.base hw1.size
  go_wp2_with fail
  refine (c3 v2 w2 hr2').mono ?_
  rintro e w3 ⟨rfl, hg3, hr3⟩
  have hw3 : Below w.heap.size w w3 := (Frm.of_below hw2 (p := fun _ => False)).trans2 (Frm.of_grown hg3 (p := fun k => v2.ownBlock = some k) (fun g e => e)) (fun k e hk => by have := (hr2.lt k e).1; have := hw1.size; omega) |>.below (fun k e => e.elim) (Nat.le_refl _)
  obtain ⟨a3, n3, hv3, hr3a, hf3⟩ := hr3.row
  have c4 := fun (W : World) (hW : Below w3.heap.size w3 W) => twice_any a3 n3 S (by omega) b1 hb1 W (hr3a.ext hW rfl)
  have c5 := fun (W : World) (hW : Below w3.heap.size w3 W) => tangled_any a3 n3 S (by omega) b2 hb2 W (hr3a.ext hW rfl)
  simp only [← hv3] at c4 c5
  clear hr2 hr2' hg3 c1 c2 c3 hb2' hr3a hf3
  obtain ⟨av, nv, cv, rfl⟩ := hr3.form
  clear hv3
  go_wp2_with fail
  rw [h1] at c4
  rw [h2] at c5
  refine (c4 w3 (Below.refl _ _)).mono ?_
  rintro e w4 ⟨rfl, hb4⟩
  go_wp2_with fail
  refine (c5 w4 hb4).mono ?_
  rintro e w5 ⟨rfl, hb5⟩
  have hb35 := hb4.trans (hb5.mono hb4.size)
  have hw5 := hw3.trans (hb35.mono hw3.size)
  have hr5 := hr3.ext hb35 rfl
  have hsz := hw5.size
  have hlt5 : ∀ q, (Value.slice av nv cv).ownBlock = some q → q < w5.heap.size := fun q hq => (hr5.lt q hq).2
  go_wp2_with fail
  refine bodyPost_ret (v := .tuple #[.pointer (some ⟨w5.heap.size, 0, none⟩), .int .i64 0]) (by simp [results, Try.results8, go_sem]) rfl ⟨w5.heap.size, _, rfl, Box.new rfl, WRow.alloc hr5 _, hsz, fun e => by have := hlt5 _ e; omega, by have hl := hw5.size; go_grown⟩

end Go.Proofs.Ytnocdecimcpkfaa

namespace Go.Proofs.Ytnocdecimcpkfaa
open Go.RowKit Go.Sort Go.Lib

theorem rowAt_box {w : World} {b : Nat} {L : List Wl} (h : Box w b (L.flatMap cW) 35) : RowAt cW 5 w (some ⟨b, 0, none⟩) L := fun j x hj => by
  have hl := List.getElem?_eq_some_iff.1 hj
  refine ⟨_, rfl, h.lt, fun i u hu => ?_⟩
  have hi : i < 5 := (List.getElem?_eq_some_iff.1 hu).1
  rw [Addr.add_lit, Addr.add_lit, h.facts.1, Nat.zero_add, flatMap_get cW_len L j i x hj hi]
  exact hu
theorem flat_lit (b o : Nat) : Flat (some ⟨b, o, none⟩) := fun ad e => by cases e; rfl
theorem srt_one (x : Wl) : srt cmpW [x] = [x] := by simp [srt]
theorem srt_two (x : Wl) : srt cmpW [x, x] = [x, x] := by
  have h := srt_perm (c := cmpW) [x, x]
  exact List.perm_replicate.1 (show (srt cmpW [x, x]).Perm (List.replicate 2 x) from h)
theorem iff_no {p : Prop} (h : ¬ p) : false = true ↔ p := ⟨fun h => (by cases h), fun e => absurd e h⟩
theorem iff_yes {p : Prop} (h : p) : true = true ↔ p := ⟨fun _ => h, fun _ => rfl⟩
theorem adj_one (X : Wl) : ¬ ∃ (i : Nat) (h : i + 1 < [X].length), adjB [X][i] [X][i + 1] = true := fun ⟨i, h, _⟩ => by simp at h
theorem adj_two (X : Wl) : ∃ (i : Nat) (h : i + 1 < [X, X].length), adjB [X, X][i] [X, X][i + 1] = true := ⟨0, by simp, by simp [adjB]⟩
theorem hit_one (X : Wl) : ¬ ∃ (k : Nat) (h : k < [X].length), hitB ([X].take k) [X][k] = true := fun ⟨k, h, e⟩ => by
  have hk : k = 0 := by simpa using h
  subst hk
  simp [hitB, opn] at e
theorem hit_two (X : Wl) (hh : ¬ hitB [X] X = true) : ¬ ∃ (k : Nat) (h : k < [X, X].length), hitB ([X, X].take k) [X, X][k] = true := fun ⟨k, h, e⟩ => by
  have hk : k = 0 ∨ k = 1 := by simp at h; omega
  rcases hk with hk | hk
  · subst hk; simp [hitB, opn] at e
  · subst hk; exact absurd (by simpa using e) hh
/-- A set of one. -/
theorem new_one (X : Wl) (hg : GoodW X) (bx : Nat) (w : World) (hb : Box w bx (cW X) 35) :
    Calls Try.prog 8 #[.slice (some ⟨bx, 0, none⟩) 1 1] w fun e w' => ∃ sb v, e = .returned (.tuple #[.pointer (some ⟨sb, 0, none⟩), .int .i64 0]) ∧ SetAt w' sb v [X] ∧ w.heap.size ≤ sb ∧ (∀ g, v.ownBlock = some g → w.heap.size ≤ g) ∧ Below w.heap.size w w' := by
  have hr : RowAt cW 5 w (some ⟨bx, 0, none⟩) [X] := rowAt_box (by simpa using hb)
  refine (new_ok (some ⟨bx, 0, none⟩) 1 [X] (by simp) (flat_lit _ _) (by simp) [X] (srt_one X) false rfl (iff_no (adj_one X)) false rfl (iff_no (hit_one X)) (by simp [good_unm hg]) w hr).mono ?_
  rintro e w' ⟨sb, v, rfl, h1, h2, h3, h4, h5⟩
  exact ⟨sb, v, rfl, ⟨h1, h2.base (Nat.zero_le _), h4, by simp, by simp [Ris, Rising], by simpa using hg⟩, h3, fun g e => (h2.lt g e).1, h5⟩
theorem new_twins (X : Wl) (hg : GoodW X) (bx : Nat) (w : World) (hb : Box w bx (cW X ++ cW X) 35) :
    Calls Try.prog 8 #[.slice (some ⟨bx, 0, none⟩) 2 2] w fun e w' => e = .returned (.tuple #[.pointer none, .int .i64 5]) ∧ Below w.heap.size w w' := by
  have hr : RowAt cW 5 w (some ⟨bx, 0, none⟩) [X, X] := rowAt_box (by simpa using hb)
  by_cases hh : hitB [X] X = true
  · exact new_twice (some ⟨bx, 0, none⟩) 2 [X, X] (by simp) (flat_lit _ _) (by simp) [X, X] (srt_two X) true rfl (iff_yes (adj_two X)) true (iff_yes ⟨1, by simp, by simpa using hh⟩) (by simp [good_unm hg]) w hr
  · exact new_twice (some ⟨bx, 0, none⟩) 2 [X, X] (by simp) (flat_lit _ _) (by simp) [X, X] (srt_two X) true rfl (iff_yes (adj_two X)) false (iff_no (hit_two X hh)) (by simp [good_unm hg]) w hr
theorem new_unmade (X : Wl) (hu : unm X = true) (bx : Nat) (w : World) (hb : Box w bx (cW X) 35) :
    Calls Try.prog 8 #[.slice (some ⟨bx, 0, none⟩) 1 1] w fun e w' => e = .returned (.tuple #[.pointer none, .int .i64 2]) ∧ Below w.heap.size w w' :=
  new_bad (some ⟨bx, 0, none⟩) 1 [X] (by simp) (flat_lit _ _) (by simp [hu]) w (rowAt_box (by simpa using hb))
theorem foot_old {sb b n : Nat} {v : Value} (hb : b < n) (h1 : n ≤ sb) (h2 : ∀ g, v.ownBlock = some g → n ≤ g) : ¬ Foot sb v b := fun h => by
  rcases h with h | h
  · omega
  · have := h2 b h; omega
theorem foot_new {sb b : Nat} {v : Value} {w : World} {L : List Wl} (S : SetAt w sb v L) (hb : w.heap.size ≤ b) : ¬ Foot sb v b := fun h => by
  rcases h with h | h
  · have := S.box.lt; omega
  · have := (S.row.lt b h).2; omega
theorem foot_lo {sb n : Nat} {v : Value} (h1 : n ≤ sb) (h2 : ∀ g, v.ownBlock = some g → n ≤ g) : ∀ k, Foot sb v k → n ≤ k := fun k h => by
  rcases h with h | h
  · omega
  · exact h2 k h
theorem fresh_lo {v v' : Value} {n m : Nat} (h : Fresh v v' m) (h2 : ∀ g, v.ownBlock = some g → n ≤ g) (hm : n ≤ m) : ∀ g, v'.ownBlock = some g → n ≤ g := fun g e => by
  rcases h g e with h | h
  · exact h2 g h
  · omega
theorem SetAt.alloc {w : World} {sb : Nat} {v : Value} {L : List Wl} (S : SetAt w sb v L) (o : Obj) : SetAt (w.alloc o) sb v L := S.ext ((Below.refl _ w).alloc (Nat.le_refl _) o) rfl
theorem foot_fresh {sb b n : Nat} {v v' : Value} (hf : Fresh v v' n) (h : ¬ Foot sb v b) (hb : b < n) : ¬ Foot sb v' b := fun e => by
  rcases e with e | e
  · exact h (.inl e)
  · rcases hf b e with e | e
    · exact h (.inr e)
    · omega
-- the document's numbers
def pA : Pt := ⟨0, 0⟩
def pB : Pt := ⟨2, 0⟩
def pM : Pt := ⟨1, 0⟩
def pN : Pt := ⟨1, 1⟩
def wAB : Wl := ⟨⟨0, 0⟩, ⟨2, 0⟩, 1⟩
def wMN : Wl := ⟨⟨1, 0⟩, ⟨1, 1⟩, 2⟩
theorem num_good : GoodW wAB := ⟨by decide, by decide, by decide, .inl rfl⟩
theorem num_mk : mkOk pB pA 1 = true ∧ mkW pB pA 1 = wAB := ⟨by decide, by decide⟩
theorem num_no : mkOk pA pA 1 = false ∧ mkW pA pA 1 = ⟨⟨0, 0⟩, ⟨0, 0⟩, 0⟩ := ⟨by decide, by decide⟩
theorem num_bad : unm ⟨pB, pA, 1⟩ = true := by decide
theorem num_on : (bgL [wAB] pM).find? (onW pM) = some wAB := by decide
theorem num_add : addE [wAB] wMN = 7 ∧ addL [wAB] wMN = [wAB] := by decide
theorem num_rem : remE [wAB] (lo2 pB pA) (hi2 pB pA) = 0 ∧ remL [wAB] (lo2 pB pA) (hi2 pB pA) = [] := by decide
theorem num_clash : clashW [] pB pA = 0 := by decide
theorem num_rem0 : remE [] (lo2 pA pB) (hi2 pA pB) = 16 ∧ remL [] (lo2 pA pB) (hi2 pA pB) = [] := by decide
theorem num_cmp : cmpW wAB wAB = 0 := by decide
end Go.Proofs.Ytnocdecimcpkfaa

namespace Go.Proofs.Ytnocdecimcpkfaa
open Go.RowKit

theorem seg_sw {a b c d : Pt} (s : Seg2 a b c d) : Seg2 b a c d := ⟨s.vb, s.va, s.vc, s.vd, s.nab.symm, s.ncd⟩
theorem seg_sw2 {a b c d : Pt} (s : Seg2 a b c d) : Seg2 a b d c := ⟨s.va, s.vb, s.vd, s.vc, s.nab, s.ncd.symm⟩
theorem seg_sw3 {a b c d : Pt} (s : Seg2 a b c d) : Seg2 c d a b := ⟨s.vc, s.vd, s.va, s.vb, s.ncd, s.nab⟩
theorem det_swap2 (a b c : Pt) : det a c b = -det a b c := by unfold det; grind
theorem line_sw {a b c d : Pt} (s : Seg2 a b c d) (h : det a b c = 0 ∧ det a b d = 0) : det c d a = 0 ∧ det c d b = 0 := by
  have i1 := I1 a b c d
  have i2 := I2 a b c d
  have hE := EE_pos s.nab
  rw [h.1, h.2] at i1 i2
  simp only [Int.mul_zero, Int.zero_mul, Int.sub_zero] at i1 i2
  constructor
  · rcases Int.mul_eq_zero.1 i1 with h | h
    · omega
    · exact h
  · rcases Int.mul_eq_zero.1 i2 with h | h
    · omega
    · exact h
theorem meet_sw1 (a b c d : Pt) : meetS b a c d = meetS a b c d := by
  by_cases s : Seg2 a b c d
  case neg => rw [meetS_none s, meetS_none (fun k => s (seg_sw k))]
  case pos =>
  have d1 := det_swap a b c
  have d2 := det_swap a b d
  by_cases hl : det a b c = 0 ∧ det a b d = 0
  · rw [meetS_line s hl, meetS_line (seg_sw s) (by omega), mil_key s, mil_key (seg_sw s)]
    (repeat' split) <;> omega
  · by_cases e : a = c ∨ a = d ∨ b = c ∨ b = d
    · rw [meetS_end s hl e, meetS_end (seg_sw s) (by omega) (by rcases e with e | e | e | e <;> simp [e])]
    · rw [meetS_fin s hl e, meetS_fin (seg_sw s) (by omega) (fun k => e (by rcases k with k | k | k | k <;> simp [k])), d1, d2, sgn_neg, sgn_neg]
      unfold fin; (repeat' split) <;> omega
theorem meet_sw2 (a b c d : Pt) : meetS a b d c = meetS a b c d := by
  by_cases s : Seg2 a b c d
  case neg => rw [meetS_none s, meetS_none (fun k => s (seg_sw2 k))]
  case pos =>
  have d1 := det_swap c d a
  have d2 := det_swap c d b
  by_cases hl : det a b c = 0 ∧ det a b d = 0
  · rw [meetS_line s hl, meetS_line (seg_sw2 s) (by omega), mil_key s, mil_key (seg_sw2 s)]
    (repeat' split) <;> omega
  · by_cases e : a = c ∨ a = d ∨ b = c ∨ b = d
    · rw [meetS_end s hl e, meetS_end (seg_sw2 s) (by omega) (by rcases e with e | e | e | e <;> simp [e])]
    · rw [meetS_fin s hl e, meetS_fin (seg_sw2 s) (by omega) (fun k => e (by rcases k with k | k | k | k <;> simp [k])), d1, d2, sgn_neg, sgn_neg]
      unfold fin; (repeat' split) <;> omega
theorem meet_sw3 (a b c d : Pt) : meetS c d a b = meetS a b c d := by
  by_cases s : Seg2 a b c d
  case neg => rw [meetS_none s, meetS_none (fun k => s (seg_sw3 k))]
  case pos =>
  by_cases hl : det a b c = 0 ∧ det a b d = 0
  · rw [meetS_line s hl, meetS_line (seg_sw3 s) (line_sw s hl), mil_key s, mil_key (seg_sw3 s)]
    (repeat' split) <;> omega
  · have hl2 : ¬ (det c d a = 0 ∧ det c d b = 0) := fun k => hl (line_sw (seg_sw3 s) k)
    by_cases e : a = c ∨ a = d ∨ b = c ∨ b = d
    · rw [meetS_end s hl e, meetS_end (seg_sw3 s) hl2 (by rcases e with e | e | e | e <;> simp [e])]
    · rw [meetS_fin s hl e, meetS_fin (seg_sw3 s) hl2 (fun k => e (by rcases k with k | k | k | k <;> simp [k]))]
      unfold fin; (repeat' split) <;> omega
theorem meet_bd (a b c d : Pt) : 0 ≤ meetS a b c d ∧ meetS a b c d ≤ 3 := by
  by_cases s : Seg2 a b c d
  case neg => rw [meetS_none s]; omega
  case pos =>
  by_cases hl : det a b c = 0 ∧ det a b d = 0
  · rw [meetS_line s hl, mil_key s]; split <;> omega
  · by_cases e : a = c ∨ a = d ∨ b = c ∨ b = d
    · rw [meetS_end s hl e]; omega
    · rw [meetS_fin s hl e]; unfold fin; (repeat' split) <;> omega
theorem meet_self {a b : Pt} (ha : vld a = true) (hb : vld b = true) (h : a ≠ b) : meetS a b b a = 3 := by
  have s : Seg2 a b b a := ⟨ha, hb, hb, ha, h, h.symm⟩
  have n := key_n s
  rw [meetS_line s ⟨det_2 _ _, det_1 _ _⟩, mil_key s, if_pos (by omega)]
theorem meet_no_self {a b : Pt} (h : vld a = false ∨ vld b = false ∨ a = b) : meetS a b b a = 0 := by
  refine meetS_none fun s => ?_
  rcases h with h | h | h
  · rw [s.va] at h; cases h
  · rw [s.vb] at h; cases h
  · exact s.nab h
theorem meet_one {a b c d : Pt} (h : meetS a b c d = 1) : ori a b c * ori a b d = -1 ∧ ori c d a * ori c d b = -1 := by
  by_cases s : Seg2 a b c d
  case neg => rw [meetS_none s] at h; omega
  case pos =>
  rw [ori_v s.va s.vb s.vc, ori_v s.va s.vb s.vd, ori_v s.vc s.vd s.va, ori_v s.vc s.vd s.vb]
  by_cases hl : det a b c = 0 ∧ det a b d = 0
  · rw [meetS_line s hl, mil_key s] at h; split at h <;> omega
  · by_cases e : a = c ∨ a = d ∨ b = c ∨ b = d
    · rw [meetS_end s hl e] at h; omega
    · rw [meetS_fin s hl e] at h
      have c1 := sgn_cases (det c d a)
      have c2 := sgn_cases (det c d b)
      have c3 := sgn_cases (det a b c)
      have c4 := sgn_cases (det a b d)
      generalize sgn (det c d a) = A at *
      generalize sgn (det c d b) = B at *
      generalize sgn (det a b c) = C at *
      generalize sgn (det a b d) = D at *
      have hh : A ≠ B ∧ C ≠ D ∧ A ≠ 0 ∧ B ≠ 0 ∧ C ≠ 0 ∧ D ≠ 0 := by
        unfold fin at h; (repeat' split at h) <;> omega
      have k1 : A = 1 ∧ B = -1 ∨ A = -1 ∧ B = 1 := by omega
      have k2 : C = 1 ∧ D = -1 ∨ C = -1 ∧ D = 1 := by omega
      rcases k1 with ⟨rfl, rfl⟩ | ⟨rfl, rfl⟩ <;> rcases k2 with ⟨rfl, rfl⟩ | ⟨rfl, rfl⟩ <;> decide
theorem on_of_key {p a b : Pt} (hp : vld p = true) (ha : vld a = true) (hb : vld b = true) (hd : det a b p = 0) (h : key a ≤ key p ∧ key p ≤ key b ∨ key b ≤ key p ∧ key p ≤ key a) : onS p a b = true := by
  unfold onS
  rw [hp, ha, hb, ori_v ha hb hp, hd, cmpP_key ha hp, cmpP_key hp hb]
  have c1 := sgn_cases (key a - key p)
  have c2 := sgn_cases (key p - key b)
  have : 0 ≤ sgn (key a - key p) * sgn (key p - key b) := by
    rcases c1 with ⟨e1, t1⟩ | ⟨e1, t1⟩ | ⟨e1, t1⟩ <;> rcases c2 with ⟨e2, t2⟩ | ⟨e2, t2⟩ | ⟨e2, t2⟩ <;> rw [e1, e2] <;> omega
  simp [s0, this]
theorem tch_on {p a b : Pt} (h : tch p a b ≠ 0) : onS p a b = true := by
  rw [on_eq]
  unfold tch at h
  cases k : onR p a b with
  | true => rfl
  | false => rw [if_pos k] at h; exact absurd rfl h
theorem meet_two {a b c d : Pt} (h : 2 ≤ meetS a b c d) : (onS a c d || (onS b c d || (onS c a b || onS d a b))) = true := by
  by_cases s : Seg2 a b c d
  case neg => rw [meetS_none s] at h; omega
  case pos =>
  by_cases hl : det a b c = 0 ∧ det a b d = 0
  · rw [meetS_line s hl, mil_key s] at h
    have l2 := line_sw s hl
    split at h
    case isFalse => omega
    case isTrue k =>
    rcases Int.le_total (min (key a) (key b)) (min (key c) (key d)) with t | t
    · rcases Int.le_total (key c) (key d) with u | u
      · rw [on_of_key s.vc s.va s.vb hl.1 (by omega)]; simp
      · rw [on_of_key s.vd s.va s.vb hl.2 (by omega)]; simp
    · rcases Int.le_total (key a) (key b) with u | u
      · rw [on_of_key s.va s.vc s.vd l2.1 (by omega)]; simp
      · rw [on_of_key s.vb s.vc s.vd l2.2 (by omega)]; simp
  · rw [meet_eq, meetR_main s hl] at h
    split at h
    · omega
    · by_cases t1 : tch a c d = 0
      · by_cases t2 : tch b c d = 0
        · by_cases t3 : tch c a b = 0
          · by_cases t4 : tch d a b = 0
            · rw [t1, t2, t3, t4] at h; exact absurd h (by decide)
            · rw [tch_on t4]; simp
          · rw [tch_on t3]; simp
        · rw [tch_on t2]; simp
      · rw [tch_on t1]; simp
-- moved along the grid
def mv (p : Pt) (x y : Int) : Pt := ⟨p.x + x, p.y + y⟩
section
variable (x y : Int)
theorem det_mv (a b c : Pt) : det (mv a x y) (mv b x y) (mv c x y) = det a b c := by unfold det mv; grind
theorem way_mv (a b : Pt) : way (mv a x y) (mv b x y) = way a b := by unfold way mv; rw [Pt.eq_iff]; constructor <;> simp only <;> omega
theorem lft_mv (a b c d : Pt) : lft (mv a x y) (mv b x y) (mv c x y) (mv d x y) = lft a b c d := by unfold lft; rw [way_mv, way_mv, way_mv]
theorem cmpN_mv (a b n : Int) : cmpN (a + n) (b + n) = cmpN a b := by unfold cmpN; rw [show a + n - (b + n) = a - b by omega]
theorem cmpP_mv (a b : Pt) : cmpP (mv a x y) (mv b x y) = cmpP a b := by
  unfold cmpP mv
  simp only [cmpN_mv]
  by_cases h : a.x = b.x
  · rw [if_pos h, if_pos (by omega)]
  · rw [if_neg h, if_neg (by omega)]
theorem peqI_mv (a b : Pt) : peqI (mv a x y).x (mv a x y).y (mv b x y).x (mv b x y).y = peqI a.x a.y b.x b.y := by
  rw [Bool.eq_iff_iff, peqI_iff, peqI_iff]; unfold mv; simp only; omega
theorem mv_inj {a b : Pt} : mv a x y = mv b x y ↔ a = b := by
  rw [Pt.eq_iff, Pt.eq_iff]; unfold mv; simp only; omega
theorem lsr_mv (a b : Pt) : lsr (mv a x y) (mv b x y) = mv (lsr a b) x y := by
  unfold lsr; rw [cmpP_mv]; split <;> rfl
theorem lo2_mv (a b : Pt) : lo2 (mv a x y) (mv b x y) = mv (lo2 a b) x y := by
  unfold lo2; rw [cmpP_mv]; split <;> rfl
theorem hi2_mv (a b : Pt) : hi2 (mv a x y) (mv b x y) = mv (hi2 a b) x y := by
  unfold hi2; rw [cmpP_mv]; split <;> rfl
theorem mil_mv (a b c d : Pt) : mil (mv a x y) (mv b x y) (mv c x y) (mv d x y) = mil a b c d := by
  unfold mil; rw [lo2_mv, lo2_mv, hi2_mv, hi2_mv, cmpP_mv, cmpP_mv]
theorem ori_mv {a b c : Pt} (ha : vld a = true) (hb : vld b = true) (hc : vld c = true) (ha' : vld (mv a x y) = true) (hb' : vld (mv b x y) = true) (hc' : vld (mv c x y) = true) :
    ori (mv a x y) (mv b x y) (mv c x y) = ori a b c := by rw [ori_v ha hb hc, ori_v ha' hb' hc', det_mv]
variable {a b c d : Pt} (ha : vld a = true) (hb : vld b = true) (hc : vld c = true) (hd : vld d = true) (ha' : vld (mv a x y) = true) (hb' : vld (mv b x y) = true) (hc' : vld (mv c x y) = true) (hd' : vld (mv d x y) = true)
include ha hb hc hd ha' hb' hc' hd'
theorem circ_mv : circ (mv a x y) (mv b x y) (mv c x y) (mv d x y) = circ a b c d := by
  unfold circ min4
  rw [ori_mv x y ha hb hc ha' hb' hc', hd, hd', peqI_mv, peqI_mv, peqI_mv, lft_mv, lsr_mv, lsr_mv, lsr_mv]
  unfold tie
  rw [peqI_mv, peqI_mv, peqI_mv, ori_mv x y hd hb hc hd' hb' hc', ori_mv x y ha hd hc ha' hd' hc', ori_mv x y ha hb hd ha' hb' hd']
theorem meet_mv : meetS (mv a x y) (mv b x y) (mv c x y) (mv d x y) = meetS a b c d := by
  unfold meetS
  rw [ori_mv x y ha hb hc ha' hb' hc', ori_mv x y ha hb hd ha' hb' hd', ori_mv x y hc hd ha hc' hd' ha', ori_mv x y hc hd hb hc' hd' hb', ha, hb, hc, hd, ha', hb', hc', hd', peqI_mv, peqI_mv, peqI_mv, peqI_mv, peqI_mv, peqI_mv, mil_mv]
end
end Go.Proofs.Ytnocdecimcpkfaa

namespace Go.Proofs.Ytnocdecimcpkfaa

theorem on_one (X : Wl) (p : Pt) : (bgL [X] p).find? (onW p) = if cmpP X.A p ≤ 0 ∧ onW p X = true then some X else none := by
  unfold bgL
  by_cases h1 : cmpP X.A p ≤ 0
  · rw [List.filter_cons_of_pos (by simpa using h1)]
    cases h2 : onW p X <;> simp [h1, h2]
  · rw [List.filter_cons_of_neg (by simpa using h1)]
    simp [h1]
theorem mul_mono {i k x : Int} (h0 : 0 ≤ i) (h1 : i ≤ k) : (0 ≤ x → 0 ≤ i * x ∧ i * x ≤ k * x) ∧ (x ≤ 0 → k * x ≤ i * x ∧ i * x ≤ 0) := by
  refine ⟨fun hx => ⟨Int.mul_nonneg h0 hx, Int.mul_le_mul_of_nonneg_right h1 hx⟩, fun hx => ⟨?_, ?_⟩⟩
  · have := Int.mul_le_mul_of_nonneg_right h1 (show 0 ≤ -x by omega)
    rw [Int.mul_neg, Int.mul_neg] at this; omega
  · have := Int.mul_nonneg h0 (show 0 ≤ -x by omega)
    rw [Int.mul_neg] at this; omega
theorem mul_strict {i k x : Int} (h0 : 0 < i) (h1 : i < k) (hx : x ≠ 0) : i * x ≠ 0 ∧ i * x ≠ k * x := by
  refine ⟨fun h => ?_, fun h => ?_⟩
  · rcases Int.mul_eq_zero.1 h with h | h <;> omega
  · have : (k - i) * x = 0 := by rw [Int.sub_mul]; omega
    rcases Int.mul_eq_zero.1 this with h | h <;> omega
theorem mul_bd {i x : Int} (h0 : 0 ≤ i) (h1 : i ≤ 20) (hx : -50 ≤ x ∧ x ≤ 50) : -1000 ≤ i * x ∧ i * x ≤ 1000 := by
  have a1 := Int.mul_le_mul_of_nonneg_left hx.2 h0
  have a2 := Int.mul_le_mul_of_nonneg_left hx.1 h0
  omega
section
variable {a : Pt} {x y k i : Int}
def pI (a : Pt) (x y i : Int) : Pt := ⟨a.x + i * x, a.y + i * y⟩
theorem pI_vld (h0 : 0 ≤ i) (h1 : i ≤ k) (ha : vld a = true) (hb : vld (pI a x y k) = true) : vld (pI a x y i) = true := by
  rw [vld_iff] at *
  unfold pI at *
  simp only at *
  have mx := mul_mono (x := x) h0 h1
  have my := mul_mono (x := y) h0 h1
  constructor
  · rcases Int.le_total 0 x with h | h
    · have := mx.1 h; omega
    · have := mx.2 h; omega
  · rcases Int.le_total 0 y with h | h
    · have := my.1 h; omega
    · have := my.2 h; omega
theorem pI_det : det a (pI a x y k) (pI a x y i) = 0 := by
  unfold det pI
  simp only
  grind
theorem pI_key : key (pI a x y i) = key a + i * (x * 16777216 + y) := by
  unfold key pI
  simp only
  grind
theorem pI_on (h0 : 0 ≤ i) (h1 : i ≤ k) (ha : vld a = true) (hb : vld (pI a x y k) = true) : onS (pI a x y i) a (pI a x y k) = true ∧ onS (pI a x y i) (pI a x y k) a = true := by
  have hp := pI_vld h0 h1 ha hb
  have hm := mul_mono (x := x * 16777216 + y) h0 h1
  have k1 := pI_key (a := a) (x := x) (y := y) (i := i)
  have k2 := pI_key (a := a) (x := x) (y := y) (i := k)
  have hk : key a ≤ key (pI a x y i) ∧ key (pI a x y i) ≤ key (pI a x y k) ∨ key (pI a x y k) ≤ key (pI a x y i) ∧ key (pI a x y i) ≤ key a := by
    rcases Int.le_total 0 (x * 16777216 + y) with h | h
    · have := hm.1 h; omega
    · have := hm.2 h; omega
  refine ⟨on_of_key hp ha hb pI_det hk, on_of_key hp hb ha ?_ (by omega)⟩
  rw [det_swap, pI_det]; rfl
theorem pI_ne (h0 : 0 < i) (h1 : i < k) (hab : a ≠ pI a x y k) : pI a x y i ≠ a ∧ pI a x y i ≠ pI a x y k := by
  have hxy : x ≠ 0 ∨ y ≠ 0 := by
    by_cases hx : x = 0
    · by_cases hy : y = 0
      · exact absurd (by rw [Pt.eq_iff]; unfold pI; simp [hx, hy]) hab
      · exact .inr hy
    · exact .inl hx
  constructor
  · intro e
    rw [Pt.eq_iff] at e
    unfold pI at e
    simp only at e
    rcases hxy with h | h
    · have := mul_strict h0 h1 h; omega
    · have := mul_strict h0 h1 h; omega
  · intro e
    rw [Pt.eq_iff] at e
    unfold pI at e
    simp only at e
    rcases hxy with h | h
    · have := mul_strict h0 h1 h; omega
    · have := mul_strict h0 h1 h; omega
theorem pI_box (h0 : 0 ≤ i) (h1 : i ≤ k) : min a.x (pI a x y k).x ≤ (pI a x y i).x ∧ (pI a x y i).x ≤ max a.x (pI a x y k).x ∧ min a.y (pI a x y k).y ≤ (pI a x y i).y ∧ (pI a x y i).y ≤ max a.y (pI a x y k).y := by
  have mx := mul_mono (x := x) h0 h1
  have my := mul_mono (x := y) h0 h1
  unfold pI
  simp only
  rcases Int.le_total 0 x with h | h <;> rcases Int.le_total 0 y with h' | h'
  · have := mx.1 h; have := my.1 h'; omega
  · have := mx.1 h; have := my.2 h'; omega
  · have := mx.2 h; have := my.1 h'; omega
  · have := mx.2 h; have := my.2 h'; omega
end
theorem lo_le {a b : Pt} : (lo2 a b = a ∧ hi2 a b = b ∧ ¬ cmpP b a < 0) ∨ (lo2 a b = b ∧ hi2 a b = a ∧ cmpP b a < 0) := by
  unfold lo2 hi2
  by_cases h : cmpP b a < 0
  · simp [h]
  · simp [h]
theorem bsd_no {X : Wl} {p : Pt} (h1 : X.A.x ≤ p.x) (h2 : p.x ≤ X.B.x) (h3 : min X.A.y X.B.y ≤ p.y) (h4 : p.y ≤ max X.A.y X.B.y) : bsd X p p = false := by
  unfold bsd mxI mnI
  simp only [Bool.or_eq_false_iff, decide_eq_false_iff_not]
  (repeat' split) <;> omega
/-- A point within is had; an end is not. -/
theorem ends_on {a : Pt} {x y k i kd : Int} (h0 : 0 < i) (h1 : i < k) (ha : vld a = true) (hb : vld (pI a x y k) = true) (hab : a ≠ pI a x y k) :
    (bgL [⟨lo2 a (pI a x y k), hi2 a (pI a x y k), kd⟩] (pI a x y i)).find? (onW (pI a x y i)) = some ⟨lo2 a (pI a x y k), hi2 a (pI a x y k), kd⟩ := by
  rw [on_one, if_pos]
  have ho := pI_on (x := x) (y := y) (by omega) (Int.le_of_lt h1) ha hb
  have hn := pI_ne h0 h1 hab
  have hx := pI_box (a := a) (x := x) (y := y) (i := i) (k := k) (by omega) (by omega)
  have hp := pI_vld (x := x) (y := y) (by omega) (Int.le_of_lt h1) ha hb
  have hm := mul_mono (i := i) (k := k) (x := x * 16777216 + y) (by omega) (by omega)
  have k1 := pI_key (a := a) (x := x) (y := y) (i := i)
  have k2 := pI_key (a := a) (x := x) (y := y) (i := k)
  have hkp : (key a ≤ key (pI a x y i) ∧ key (pI a x y i) ≤ key (pI a x y k)) ∨ (key (pI a x y k) ≤ key (pI a x y i) ∧ key (pI a x y i) ≤ key a) := by
    rcases Int.le_total 0 (x * 16777216 + y) with h | h
    · have := hm.1 h; omega
    · have := hm.2 h; omega
  clear k1 k2 hm
  generalize pI a x y i = p at *
  generalize pI a x y k = b at *
  have hle : ∀ {p q : Pt}, vld p = true → vld q = true → key p ≤ key q → cmpP p q ≤ 0 := fun hp hq h => by
    have : ¬ cmpP _ _ < 0 := fun e => by have := (cmp_lt hq hp).1 e; omega
    rw [cmpP_neg] at this; omega
  rcases lo_le (a := a) (b := b) with ⟨e1, e2, e3⟩ | ⟨e1, e2, e3⟩
  · rw [e1, e2]
    have hk : key a ≤ key b := by have := (not_congr (cmp_lt hb ha)).1 e3; omega
    have hax : a.x ≤ b.x := by
      rw [vld_iff] at ha hb; unfold key at hk; omega
    refine ⟨(show cmpP a p ≤ 0 from hle ha hp (by omega)), ?_⟩
    unfold onW
    simp only
    rw [bsd_no (X := ⟨a, b, kd⟩) (by simp only; omega) (by simp only; omega) (by simp only; omega) (by simp only; omega), ho.1, decide_eq_false (Ne.symm hn.1), decide_eq_false (Ne.symm hn.2)]
    rfl
  · rw [e1, e2]
    have hk : key b < key a := (cmp_lt hb ha).1 e3
    have hax : b.x ≤ a.x := by
      rw [vld_iff] at ha hb; unfold key at hk; omega
    refine ⟨(show cmpP b p ≤ 0 from hle hb hp (by omega)), ?_⟩
    unfold onW
    simp only
    rw [bsd_no (X := ⟨b, a, kd⟩) (by simp only; omega) (by simp only; omega) (by simp only; omega) (by simp only; omega), ho.2, decide_eq_false (Ne.symm hn.1), decide_eq_false (Ne.symm hn.2)]
    rfl
theorem ends_off {a b p : Pt} {kd : Int} (h : p = a ∨ p = b) : (bgL [⟨lo2 a b, hi2 a b, kd⟩] p).find? (onW p) = none := by
  rw [on_one, if_neg]
  rintro ⟨_, h2⟩
  unfold onW at h2
  simp only [Bool.and_eq_true, Bool.not_eq_true', decide_eq_false_iff_not] at h2
  rcases lo_le (a := a) (b := b) with ⟨e1, e2, _⟩ | ⟨e1, e2, _⟩ <;> rw [e1, e2] at h2 <;> rcases h with rfl | rfl
  · exact h2.1 rfl
  · exact h2.2.1 rfl
  · exact h2.2.1 rfl
  · exact h2.1 rfl
theorem lo_sw {a b : Pt} (h : a ≠ b) : lo2 b a = lo2 a b ∧ hi2 b a = hi2 a b := by
  have h0 : cmpP b a ≠ 0 := fun e => h (cmpP_eq0.1 e).symm
  unfold lo2 hi2
  rw [cmpP_neg b a]
  by_cases e : cmpP b a < 0
  · rw [if_pos e, if_pos e, if_neg (by omega), if_neg (by omega)]; exact ⟨rfl, rfl⟩
  · rw [if_neg e, if_neg e, if_pos (by omega), if_pos (by omega)]; exact ⟨rfl, rfl⟩
theorem one_kind (p q : Pt) (kd : Int) : kindW [⟨p, q, kd⟩] p q = kd := by simp [kindW, isW]
theorem one_good {a b : Pt} {kd : Int} (h : mkOk a b kd = true) : GoodW ⟨lo2 a b, hi2 a b, kd⟩ := by
  have h3 := h
  unfold mkOk mkK at h3
  simp only [Bool.and_eq_true, Bool.or_eq_true, decide_eq_true_eq, Bool.not_eq_true', decide_eq_false_iff_not] at h3
  obtain ⟨hk, hab, ha, hb⟩ := h3
  have h0 : cmpP b a ≠ 0 := fun e => hab (cmpP_eq0.1 e).symm
  rcases lo_le (a := a) (b := b) with ⟨e1, e2, e3⟩ | ⟨e1, e2, e3⟩ <;> rw [e1, e2]
  · exact ⟨ha, hb, by show cmpP a b < 0; rw [cmpP_neg b a]; omega, hk⟩
  · exact ⟨hb, ha, e3, hk⟩
theorem one_at {a b : Pt} {kd : Int} (h : a ≠ b) : (bgL [⟨lo2 a b, hi2 a b, kd⟩] a).filter (endW a) = [⟨lo2 a b, hi2 a b, kd⟩] ∧ (bgL [⟨lo2 a b, hi2 a b, kd⟩] b).filter (endW b) = [⟨lo2 a b, hi2 a b, kd⟩] := by
  have h0 : cmpP b a ≠ 0 := fun e => h (cmpP_eq0.1 e).symm
  have ha := cmpP_eq0.2 (rfl : a = a)
  have hb := cmpP_eq0.2 (rfl : b = b)
  have hn := cmpP_neg b a
  rcases lo_le (a := a) (b := b) with ⟨e1, e2, e3⟩ | ⟨e1, e2, e3⟩ <;> rw [e1, e2] <;> unfold bgL endW
  · have : cmpP a b ≤ 0 := by omega
    simp [ha, this]
  · have : cmpP b a ≤ 0 := by omega
    simp [hb, this]
theorem one_clash {a b : Pt} {kd : Int} (h : mkOk a b kd = true) : clashW [⟨lo2 a b, hi2 a b, kd⟩] a b = 5 := by
  have h3 := h
  unfold mkOk mkK at h3
  simp only [Bool.and_eq_true, Bool.or_eq_true, decide_eq_true_eq] at h3
  have h1 : mkOk a b 1 = true := by unfold mkOk mkK; simp only [Bool.and_eq_true]; exact ⟨by decide, h3.2⟩
  unfold clashW
  rw [if_pos h1, one_kind, if_neg (by omega)]
theorem one_rem {a b : Pt} {kd : Int} (h : mkOk a b kd = true) : remE [⟨lo2 a b, hi2 a b, kd⟩] (lo2 a b) (hi2 a b) = 0 ∧ remL [⟨lo2 a b, hi2 a b, kd⟩] (lo2 a b) (hi2 a b) = [] := by
  have hg := (one_good h).k
  simp only at hg
  have hp : posW [⟨lo2 a b, hi2 a b, kd⟩] (lo2 a b) (hi2 a b) = 0 := by
    unfold posW
    rw [List.filter_cons_of_neg]
    · rfl
    · simp only [decide_eq_true_eq]
      intro e
      rw [cmpW_lt] at e
      simp only [cmpP_eq0.2 rfl] at e
      omega
  unfold remE remL
  rw [hp]
  simp [fnd]
end Go.Proofs.Ytnocdecimcpkfaa
