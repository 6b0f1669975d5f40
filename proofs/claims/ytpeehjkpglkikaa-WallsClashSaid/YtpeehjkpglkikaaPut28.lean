/- Put together: WalR, WalS, WalT. -/
import Derived.Test.YtpeehjkpglkikaaRows
import Derived.Test.YtpeehjkpglkikaaPut27
import Derived.Test.YtpeehjkpglkikaaPut2
import Derived.WalkKit
import Derived.WalkSpells
import Derived.WalkLawsBesides
import Derived.Laws.Externs
import Derived.Deep.QuietTactic
import Derived.BigQuiet
import Derived.Lib.Hide
import Derived.Handy
import Derived.OwnWalk
import Derived.LoopN
import Derived.RegionTactic
namespace Go.Proofs.Ytpeehjkpglkikaa
open Go.RowKit Go.Sort Go.Lib
attribute [local go_sem] rOper rAt rUpon cell_set sg_i64 sg_u64 alloc_cell alloc_frozen
attribute [local go_sem 10000] pt_eql pt_neq wal_eql wal_neq
attribute [local irreducible] rWalk

theorem unm_enter : ∀ args w, (callFunc 33 args).run Try.prog w = .ok (.enter 33 args) w := enters_of Try.func33 (by kernel_rfl) rfl
theorem unm_pred (w : World) : PredBelow Try.prog 33 #[] (fun x => .agg (cW x).toArray) unm w := fun W x hb =>
  (unm_any x W).mono fun _ _ ⟨he, hx⟩ => ⟨he, hb.trans (hx.mono hb.size)⟩
theorem new_bad (a : Option Addr) (c : Nat) (L : List Wl) (hL : L.length < 1000000) (hf : Flat a) (hu : L.any unm = true) (w : World) (h : RowAt cW 5 w a L) :
    Calls Try.prog 8 #[.slice a L.length c] w fun e w' => e = .returned (.tuple #[.pointer none, .int .i64 2]) ∧ Below w.heap.size w w' := by
  go_enter Try.func8, Try.ntmps8
  have c1 := conW_any unm _ #[] unm_enter a c L (by omega) w h hf (unm_pred w)
  rw [hu] at c1
  generalize L.length = n at *
  go_wp2_with fail
  refine c1.mono ?_
  rintro e w1 ⟨rfl, hb⟩
  go_wp2_with fail
  refine bodyPost_ret (v := .tuple #[.pointer none, .int .i64 2]) (by simp [results, Try.results8, go_sem]) rfl ⟨rfl, hb⟩

theorem new_twice (a : Option Addr) (c : Nat) (L : List Wl) (hL : L.length < 1000000) (hf : Flat a) (hz : a = none → L = []) (S : List Wl) (hS : srt cmpW L = S) (b1 : Bool) (h1 : b1 = true) (hb1 : b1 = true ↔ ∃ (i : Nat) (h : i + 1 < S.length), adjB S[i] S[i + 1] = true) (b2 : Bool) (hb2 : b2 = true ↔ ∃ (k : Nat) (h : k < S.length), hitB (S.take k) S[k] = true) (hu : L.any unm = false) (w : World) (h : RowAt cW 5 w a L) :
    Calls Try.prog 8 #[.slice a L.length c] w fun e w' => e = .returned (.tuple #[.pointer none, .int .i64 5]) ∧ Below w.heap.size w w' := by
  go_enter Try.func8, Try.ntmps8
  have c1 := conW_any unm _ #[] unm_enter a c L (by omega) w h hf (unm_pred w)
  rw [hu] at c1
  have hlen : (srt cmpW L).length = L.length := (srt_perm (c := cmpW) L).length_eq
  rw [hS] at hlen
  have c2 := fun (W : World) (hW : Below w.heap.size w W) => cloneW_any a c L (by omega) W (h.ext hW rfl) hf hz
  have c3 := fun (v : Value) (W : World) (hr : WRow W w.heap.size v L) => sortW_any w.heap.size v L (by omega) W hr
  rw [hS] at c3
  have hSL : S.length < 1000000 := by omega
  have HLE := Lib.hid hlen
  generalize L.length = n at *
  clear hL h hf hz
  go_wp2_with fail
  refine c1.mono ?_
  rintro e w1 ⟨rfl, hw1⟩
  go_wp2_with fail
  refine (c2 w1 hw1).mono ?_
  rintro e w2 ⟨v2, rfl, hr2, hb2'⟩
  have hw2 := hw1.trans (hb2'.mono hw1.size)
  have hr2' := hr2.base hw1.size
  go_wp2_with fail
  refine (c3 v2 w2 hr2').mono ?_
  rintro e w3 ⟨rfl, hg3, hr3⟩
  have hw3 : Below w.heap.size w w3 := (Frm.of_below hw2 (p := fun _ => False)).trans2 (Frm.of_grown hg3 (p := fun k => v2.ownBlock = some k) (fun g e => e)) (fun k e hk => by have := (hr2.lt k e).1; have := hw1.size; omega) |>.below (fun k e => e.elim) (Nat.le_refl _)
  obtain ⟨a3, n3, hv3, hr3a, hf3⟩ := hr3.row
  have c4 := fun (W : World) (hW : Below w3.heap.size w3 W) => twice_any a3 n3 S (by omega) b1 hb1 W (hr3a.ext hW rfl)
  have c5 := fun (W : World) (hW : Below w3.heap.size w3 W) => tangled_any a3 n3 S (by omega) b2 hb2 W (hr3a.ext hW rfl)
  simp only [← hv3] at c4 c5
  clear hr2 hr2' hg3 c1 c2 c3 hb2' hr3a hf3
  obtain ⟨av, nv, cv, rfl⟩ := hr3.form
  clear hv3
  go_wp2_with fail
  rw [h1] at c4
  refine (c4 w3 (Below.refl _ _)).mono ?_
  rintro e w4 ⟨rfl, hb4⟩
  go_wp2_with fail
  refine bodyPost_ret (v := .tuple #[.pointer none, .int .i64 5]) (by simp [results, Try.results8, go_sem]) rfl ⟨rfl, hw3.trans (hb4.mono hw3.size)⟩

theorem new_tang (a : Option Addr) (c : Nat) (L : List Wl) (hL : L.length < 1000000) (hf : Flat a) (hz : a = none → L = []) (S : List Wl) (hS : srt cmpW L = S) (b1 : Bool) (h1 : b1 = false) (hb1 : b1 = true ↔ ∃ (i : Nat) (h : i + 1 < S.length), adjB S[i] S[i + 1] = true) (b2 : Bool) (h2 : b2 = true) (hb2 : b2 = true ↔ ∃ (k : Nat) (h : k < S.length), hitB (S.take k) S[k] = true) (hu : L.any unm = false) (w : World) (h : RowAt cW 5 w a L) :
    Calls Try.prog 8 #[.slice a L.length c] w fun e w' => e = .returned (.tuple #[.pointer none, .int .i64 7]) ∧ Below w.heap.size w w' := by
  go_enter Try.func8, Try.ntmps8
  have c1 := conW_any unm _ #[] unm_enter a c L (by omega) w h hf (unm_pred w)
  rw [hu] at c1
  have hlen : (srt cmpW L).length = L.length := (srt_perm (c := cmpW) L).length_eq
  rw [hS] at hlen
  have c2 := fun (W : World) (hW : Below w.heap.size w W) => cloneW_any a c L (by omega) W (h.ext hW rfl) hf hz
  have c3 := fun (v : Value) (W : World) (hr : WRow W w.heap.size v L) => sortW_any w.heap.size v L (by omega) W hr
  rw [hS] at c3
  have hSL : S.length < 1000000 := by omega
  have HLE := Lib.hid hlen
  generalize L.length = n at *
  clear hL h hf hz
  go_wp2_with fail
  refine c1.mono ?_
  rintro e w1 ⟨rfl, hw1⟩
  go_wp2_with fail
  refine (c2 w1 hw1).mono ?_
  rintro e w2 ⟨v2, rfl, hr2, hb2'⟩
  have hw2 := hw1.trans (hb2'.mono hw1.size)
  have hr2' := hr2.base hw1.size
  go_wp2_with fail
  refine (c3 v2 w2 hr2').mono ?_
  rintro e w3 ⟨rfl, hg3, hr3⟩
  have hw3 : Below w.heap.size w w3 := (Frm.of_below hw2 (p := fun _ => False)).trans2 (Frm.of_grown hg3 (p := fun k => v2.ownBlock = some k) (fun g e => e)) (fun k e hk => by have := (hr2.lt k e).1; have := hw1.size; omega) |>.below (fun k e => e.elim) (Nat.le_refl _)
  obtain ⟨a3, n3, hv3, hr3a, hf3⟩ := hr3.row
  have c4 := fun (W : World) (hW : Below w3.heap.size w3 W) => twice_any a3 n3 S (by omega) b1 hb1 W (hr3a.ext hW rfl)
  have c5 := fun (W : World) (hW : Below w3.heap.size w3 W) => tangled_any a3 n3 S (by omega) b2 hb2 W (hr3a.ext hW rfl)
  simp only [← hv3] at c4 c5
  clear hr2 hr2' hg3 c1 c2 c3 hb2' hr3a hf3
  obtain ⟨av, nv, cv, rfl⟩ := hr3.form
  clear hv3
  go_wp2_with fail
  rw [h1] at c4
  rw [h2] at c5
  refine (c4 w3 (Below.refl _ _)).mono ?_
  rintro e w4 ⟨rfl, hb4⟩
  go_wp2_with fail
  refine (c5 w4 hb4).mono ?_
  rintro e w5 ⟨rfl, hb5⟩
  have hw5 := hw3.trans ((hb4.trans (hb5.mono hb4.size)).mono hw3.size)
  go_wp2_with fail
  refine bodyPost_ret (v := .tuple #[.pointer none, .int .i64 7]) (by simp [results, Try.results8, go_sem]) rfl ⟨rfl, hw5⟩

theorem new_ok (a : Option Addr) (c : Nat) (L : List Wl) (hL : L.length < 1000000) (hf : Flat a) (hz : a = none → L = []) (S : List Wl) (hS : srt cmpW L = S) (b1 : Bool) (h1 : b1 = false) (hb1 : b1 = true ↔ ∃ (i : Nat) (h : i + 1 < S.length), adjB S[i] S[i + 1] = true) (b2 : Bool) (h2 : b2 = false) (hb2 : b2 = true ↔ ∃ (k : Nat) (h : k < S.length), hitB (S.take k) S[k] = true) (hu : L.any unm = false) (w : World) (h : RowAt cW 5 w a L) :
    Calls Try.prog 8 #[.slice a L.length c] w fun e w' => ∃ sb v, e = .returned (.tuple #[.pointer (some ⟨sb, 0, none⟩), .int .i64 0]) ∧ Box w' sb [v] 64 ∧ WRow w' w.heap.size v S ∧ w.heap.size ≤ sb ∧ v.ownBlock ≠ some sb ∧ Below w.heap.size w w' := by
  go_enter Try.func8, Try.ntmps8
  have c1 := conW_any unm _ #[] unm_enter a c L (by omega) w h hf (unm_pred w)
  rw [hu] at c1
  have hlen : (srt cmpW L).length = L.length := (srt_perm (c := cmpW) L).length_eq
  rw [hS] at hlen
  have c2 := fun (W : World) (hW : Below w.heap.size w W) => cloneW_any a c L (by omega) W (h.ext hW rfl) hf hz
  have c3 := fun (v : Value) (W : World) (hr : WRow W w.heap.size v L) => sortW_any w.heap.size v L (by omega) W hr
  rw [hS] at c3
  have hSL : S.length < 1000000 := by omega
  have HLE := Lib.hid hlen
  generalize L.length = n at *
  clear hL h hf hz
  go_wp2_with fail
  refine c1.mono ?_
  rintro e w1 ⟨rfl, hw1⟩
  go_wp2_with fail
  refine (c2 w1 hw1).mono ?_
  rintro e w2 ⟨v2, rfl, hr2, hb2'⟩
  have hw2 := hw1.trans (hb2'.mono hw1.size)
  have hr2' := hr2.base hw1.size
  go_wp2_with fail
  refine (c3 v2 w2 hr2').mono ?_
  rintro e w3 ⟨rfl, hg3, hr3⟩
  have hw3 : Below w.heap.size w w3 := (Frm.of_below hw2 (p := fun _ => False)).trans2 (Frm.of_grown hg3 (p := fun k => v2.ownBlock = some k) (fun g e => e)) (fun k e hk => by have := (hr2.lt k e).1; have := hw1.size; omega) |>.below (fun k e => e.elim) (Nat.le_refl _)
  obtain ⟨a3, n3, hv3, hr3a, hf3⟩ := hr3.row
  have c4 := fun (W : World) (hW : Below w3.heap.size w3 W) => twice_any a3 n3 S (by omega) b1 hb1 W (hr3a.ext hW rfl)
  have c5 := fun (W : World) (hW : Below w3.heap.size w3 W) => tangled_any a3 n3 S (by omega) b2 hb2 W (hr3a.ext hW rfl)
  simp only [← hv3] at c4 c5
  clear hr2 hr2' hg3 c1 c2 c3 hb2' hr3a hf3
  obtain ⟨av, nv, cv, rfl⟩ := hr3.form
  clear hv3
  go_wp2_with fail
  rw [h1] at c4
  rw [h2] at c5
  refine (c4 w3 (Below.refl _ _)).mono ?_
  rintro e w4 ⟨rfl, hb4⟩
  go_wp2_with fail
  refine (c5 w4 hb4).mono ?_
  rintro e w5 ⟨rfl, hb5⟩
  have hb35 := hb4.trans (hb5.mono hb4.size)
  have hw5 := hw3.trans (hb35.mono hw3.size)
  have hr5 := hr3.ext hb35 rfl
  have hsz := hw5.size
  have hlt5 : ∀ q, (Value.slice av nv cv).ownBlock = some q → q < w5.heap.size := fun q hq => (hr5.lt q hq).2
  go_wp2_with fail
  refine bodyPost_ret (v := .tuple #[.pointer (some ⟨w5.heap.size, 0, none⟩), .int .i64 0]) (by simp [results, Try.results8, go_sem]) rfl ⟨w5.heap.size, _, rfl, Box.new rfl, WRow.alloc hr5 _, hsz, fun e => by have := hlt5 _ e; omega, by have hl := hw5.size; go_grown⟩

end Go.Proofs.Ytpeehjkpglkikaa

namespace Go.Proofs.Ytpeehjkpglkikaa
open Go.RowKit Go.Sort Go.Lib

theorem rowAt_box {w : World} {b : Nat} {L : List Wl} (h : Box w b (L.flatMap cW) 35) : RowAt cW 5 w (some ⟨b, 0, none⟩) L := fun j x hj => by
  have hl := List.getElem?_eq_some_iff.1 hj
  refine ⟨_, rfl, h.lt, fun i u hu => ?_⟩
  have hi : i < 5 := (List.getElem?_eq_some_iff.1 hu).1
  rw [Addr.add_lit, Addr.add_lit, h.facts.1, Nat.zero_add, flatMap_get cW_len L j i x hj hi]
  exact hu
theorem flat_lit (b o : Nat) : Flat (some ⟨b, o, none⟩) := fun ad e => by cases e; rfl
theorem srt_one (x : Wl) : srt cmpW [x] = [x] := by simp [srt]
theorem srt_two (x : Wl) : srt cmpW [x, x] = [x, x] := by
  have h := srt_perm (c := cmpW) [x, x]
  exact List.perm_replicate.1 (show (srt cmpW [x, x]).Perm (List.replicate 2 x) from h)
theorem iff_no {p : Prop} (h : ¬ p) : false = true ↔ p := ⟨fun h => (by cases h), fun e => absurd e h⟩
theorem iff_yes {p : Prop} (h : p) : true = true ↔ p := ⟨fun _ => h, fun _ => rfl⟩
theorem adj_one (X : Wl) : ¬ ∃ (i : Nat) (h : i + 1 < [X].length), adjB [X][i] [X][i + 1] = true := fun ⟨i, h, _⟩ => by simp at h
theorem adj_two (X : Wl) : ∃ (i : Nat) (h : i + 1 < [X, X].length), adjB [X, X][i] [X, X][i + 1] = true := ⟨0, by simp, by simp [adjB]⟩
theorem hit_one (X : Wl) : ¬ ∃ (k : Nat) (h : k < [X].length), hitB ([X].take k) [X][k] = true := fun ⟨k, h, e⟩ => by
  have hk : k = 0 := by simpa using h
  subst hk
  simp [hitB, opn] at e
theorem hit_two (X : Wl) (hh : ¬ hitB [X] X = true) : ¬ ∃ (k : Nat) (h : k < [X, X].length), hitB ([X, X].take k) [X, X][k] = true := fun ⟨k, h, e⟩ => by
  have hk : k = 0 ∨ k = 1 := by simp at h; omega
  rcases hk with hk | hk
  · subst hk; simp [hitB, opn] at e
  · subst hk; exact absurd (by simpa using e) hh
/-- A set of one. -/
theorem new_one (X : Wl) (hg : GoodW X) (bx : Nat) (w : World) (hb : Box w bx (cW X) 35) :
    Calls Try.prog 8 #[.slice (some ⟨bx, 0, none⟩) 1 1] w fun e w' => ∃ sb v, e = .returned (.tuple #[.pointer (some ⟨sb, 0, none⟩), .int .i64 0]) ∧ SetAt w' sb v [X] ∧ w.heap.size ≤ sb ∧ (∀ g, v.ownBlock = some g → w.heap.size ≤ g) ∧ Below w.heap.size w w' := by
  have hr : RowAt cW 5 w (some ⟨bx, 0, none⟩) [X] := rowAt_box (by simpa using hb)
  refine (new_ok (some ⟨bx, 0, none⟩) 1 [X] (by simp) (flat_lit _ _) (by simp) [X] (srt_one X) false rfl (iff_no (adj_one X)) false rfl (iff_no (hit_one X)) (by simp [good_unm hg]) w hr).mono ?_
  rintro e w' ⟨sb, v, rfl, h1, h2, h3, h4, h5⟩
  exact ⟨sb, v, rfl, ⟨h1, h2.base (Nat.zero_le _), h4, by simp, by simp [Ris, Rising], by simpa using hg⟩, h3, fun g e => (h2.lt g e).1, h5⟩
theorem new_twins (X : Wl) (hg : GoodW X) (bx : Nat) (w : World) (hb : Box w bx (cW X ++ cW X) 35) :
    Calls Try.prog 8 #[.slice (some ⟨bx, 0, none⟩) 2 2] w fun e w' => e = .returned (.tuple #[.pointer none, .int .i64 5]) ∧ Below w.heap.size w w' := by
  have hr : RowAt cW 5 w (some ⟨bx, 0, none⟩) [X, X] := rowAt_box (by simpa using hb)
  by_cases hh : hitB [X] X = true
  · exact new_twice (some ⟨bx, 0, none⟩) 2 [X, X] (by simp) (flat_lit _ _) (by simp) [X, X] (srt_two X) true rfl (iff_yes (adj_two X)) true (iff_yes ⟨1, by simp, by simpa using hh⟩) (by simp [good_unm hg]) w hr
  · exact new_twice (some ⟨bx, 0, none⟩) 2 [X, X] (by simp) (flat_lit _ _) (by simp) [X, X] (srt_two X) true rfl (iff_yes (adj_two X)) false (iff_no (hit_two X hh)) (by simp [good_unm hg]) w hr
theorem new_unmade (X : Wl) (hu : unm X = true) (bx : Nat) (w : World) (hb : Box w bx (cW X) 35) :
    Calls Try.prog 8 #[.slice (some ⟨bx, 0, none⟩) 1 1] w fun e w' => e = .returned (.tuple #[.pointer none, .int .i64 2]) ∧ Below w.heap.size w w' :=
  new_bad (some ⟨bx, 0, none⟩) 1 [X] (by simp) (flat_lit _ _) (by simp [hu]) w (rowAt_box (by simpa using hb))
theorem foot_old {sb b n : Nat} {v : Value} (hb : b < n) (h1 : n ≤ sb) (h2 : ∀ g, v.ownBlock = some g → n ≤ g) : ¬ Foot sb v b := fun h => by
  rcases h with h | h
  · omega
  · have := h2 b h; omega
theorem foot_new {sb b : Nat} {v : Value} {w : World} {L : List Wl} (S : SetAt w sb v L) (hb : w.heap.size ≤ b) : ¬ Foot sb v b := fun h => by
  rcases h with h | h
  · have := S.box.lt; omega
  · have := (S.row.lt b h).2; omega
theorem foot_lo {sb n : Nat} {v : Value} (h1 : n ≤ sb) (h2 : ∀ g, v.ownBlock = some g → n ≤ g) : ∀ k, Foot sb v k → n ≤ k := fun k h => by
  rcases h with h | h
  · omega
  · exact h2 k h
theorem fresh_lo {v v' : Value} {n m : Nat} (h : Fresh v v' m) (h2 : ∀ g, v.ownBlock = some g → n ≤ g) (hm : n ≤ m) : ∀ g, v'.ownBlock = some g → n ≤ g := fun g e => by
  rcases h g e with h | h
  · exact h2 g h
  · omega
theorem SetAt.alloc {w : World} {sb : Nat} {v : Value} {L : List Wl} (S : SetAt w sb v L) (o : Obj) : SetAt (w.alloc o) sb v L := S.ext ((Below.refl _ w).alloc (Nat.le_refl _) o) rfl
theorem foot_fresh {sb b n : Nat} {v v' : Value} (hf : Fresh v v' n) (h : ¬ Foot sb v b) (hb : b < n) : ¬ Foot sb v' b := fun e => by
  rcases e with e | e
  · exact h (.inl e)
  · rcases hf b e with e | e
    · exact h (.inr e)
    · omega
-- the document's numbers
def pA : Pt := ⟨0, 0⟩
def pB : Pt := ⟨2, 0⟩
def pM : Pt := ⟨1, 0⟩
def pN : Pt := ⟨1, 1⟩
def wAB : Wl := ⟨⟨0, 0⟩, ⟨2, 0⟩, 1⟩
def wMN : Wl := ⟨⟨1, 0⟩, ⟨1, 1⟩, 2⟩
theorem num_good : GoodW wAB := ⟨by decide, by decide, by decide, .inl rfl⟩
theorem num_mk : mkOk pB pA 1 = true ∧ mkW pB pA 1 = wAB := ⟨by decide, by decide⟩
theorem num_no : mkOk pA pA 1 = false ∧ mkW pA pA 1 = ⟨⟨0, 0⟩, ⟨0, 0⟩, 0⟩ := ⟨by decide, by decide⟩
theorem num_bad : unm ⟨pB, pA, 1⟩ = true := by decide
theorem num_on : (bgL [wAB] pM).find? (onW pM) = some wAB := by decide
theorem num_add : addE [wAB] wMN = 7 ∧ addL [wAB] wMN = [wAB] := by decide
theorem num_rem : remE [wAB] (lo2 pB pA) (hi2 pB pA) = 0 ∧ remL [wAB] (lo2 pB pA) (hi2 pB pA) = [] := by decide
theorem num_clash : clashW [] pB pA = 0 := by decide
theorem num_rem0 : remE [] (lo2 pA pB) (hi2 pA pB) = 16 ∧ remL [] (lo2 pA pB) (hi2 pA pB) = [] := by decide
theorem num_cmp : cmpW wAB wAB = 0 := by decide
end Go.Proofs.Ytpeehjkpglkikaa

namespace Go.Proofs.Ytpeehjkpglkikaa
open Go.RowKit Go.Sort
attribute [local go_sem] rOper rAt rUpon cell_set sg_i64 sg_u64 alloc_cell alloc_frozen
attribute [local go_sem 10000] pt_eql pt_neq wal_eql wal_neq
attribute [local irreducible] rWalk

set_option maxRecDepth 100000 in
set_option maxHeartbeats 4000000 in
theorem awake_any  (w : World) :
    Calls Try.prog 7 #[] w fun e w' => e = .returned (.bool true) ∧ Below w.heap.size w w' := by
  go_enter Try.func7, Try.ntmps7
  go_wp2_with fail
  refine at_call fun W1 hW => ?_
  have Ba : Box W1 (w.heap.size) [.int .i64 0, .int .i64 0] 33 := by rw [hW]; exact (Box.new rfl).old _
  have Bb : Box W1 (w.heap.size + 1) [.int .i64 2, .int .i64 0] 33 := by rw [hW]; exact Box.new (by simp)
  have hw : Below w.heap.size w W1 := by rw [hW]; go_grown
  clear hW
  obtain ⟨m1, m2⟩ := num_mk
  obtain ⟨n1, n2⟩ := num_no
  have c1 := make_any pB pA 1
  have c2 := make_any pA pA 1
  rw [m1, m2] at c1
  rw [n1, n2] at c2
  simp only [pA, pB, wAB] at c1 c2
  refine (c1 _).mono ?_
  rintro e w2 ⟨rfl, hb⟩
  replace Ba := Ba.ext hb rfl
  replace Bb := Bb.ext hb rfl
  replace hw := hw.trans (hb.mono hw.size)
  clear hb
  obtain ⟨xa, ya, za, va⟩ := Ba.facts
  obtain ⟨xb, yb, zb, vb⟩ := Bb.facts
  go_wp2_with fail
  refine at_call fun W3 hW => ?_
  obtain ⟨bkw, hbw⟩ : ∃ b, w2.heap.size = b := ⟨_, rfl⟩
  rw [hbw]
  have law := Ba.lt
  rw [hbw] at law
  have lbw := Bb.lt
  rw [hbw] at lbw
  have fw := hw.size
  rw [hbw] at fw
  have Bw : Box W3 bkw [.int .i64 0, .int .i64 0, .int .i64 2, .int .i64 0, .int .i64 1] 35 := by rw [hW]; exact Box.new hbw.symm
  replace Ba : Box W3 (w.heap.size) [.int .i64 0, .int .i64 0] 33 := by rw [hW]; exact Ba.old _
  replace Bb : Box W3 (w.heap.size + 1) [.int .i64 2, .int .i64 0] 33 := by rw [hW]; exact Bb.old _
  replace hw : Below w.heap.size w W3 := by have hl := hw.size; rw [hW]; go_grown
  clear hW hbw
  refine (c2 _).mono ?_
  rintro e w4 ⟨rfl, hb⟩
  clear xa ya za va xb yb zb vb
  replace Ba := Ba.ext hb rfl
  replace Bb := Bb.ext hb rfl
  replace Bw := Bw.ext hb rfl
  replace hw := hw.trans (hb.mono hw.size)
  clear hb
  obtain ⟨xa, ya, za, va⟩ := Ba.facts
  obtain ⟨xb, yb, zb, vb⟩ := Bb.facts
  obtain ⟨xw, yw, zw, vw⟩ := Bw.facts
  go_wp2_with fail
  refine at_call fun W5 hW => ?_
  obtain ⟨bkx, hbx⟩ : ∃ b, w4.heap.size = b := ⟨_, rfl⟩
  rw [hbx]
  have lax := Ba.lt
  rw [hbx] at lax
  have lbx := Bb.lt
  rw [hbx] at lbx
  have lwx := Bw.lt
  rw [hbx] at lwx
  have fx := hw.size
  rw [hbx] at fx
  have Bx : Box W5 (bkx) [.int .i64 0, .int .i64 0, .int .i64 0, .int .i64 0, .int .i64 0] 35 := by rw [hW, ← hbx]; exact (Box.new rfl).old _
  have Bl1 : Box W5 (bkx + 1) [.int .i64 0, .int .i64 0, .int .i64 2, .int .i64 0, .int .i64 1] 35 := by rw [hW, ← hbx]; exact Box.new (by simp)
  replace Ba : Box W5 (w.heap.size) [.int .i64 0, .int .i64 0] 33 := by rw [hW]; exact ((Ba).old _).old _
  replace Bb : Box W5 (w.heap.size + 1) [.int .i64 2, .int .i64 0] 33 := by rw [hW]; exact ((Bb).old _).old _
  replace Bw : Box W5 (bkw) [.int .i64 0, .int .i64 0, .int .i64 2, .int .i64 0, .int .i64 1] 35 := by rw [hW]; exact ((Bw).old _).old _
  replace hw : Below w.heap.size w W5 := by have hl := hw.size; rw [hW]; go_grown
  clear hW hbx
  refine (new_one wAB num_good _ W5 Bl1).mono ?_
  rintro e w6 ⟨sb, v, rfl, S, hs0, hv0, hb⟩
  clear xa ya za va xb yb zb vb xw yw zw vw
  have la0 := Ba.lt
  replace Ba := Ba.ext hb rfl
  have lb0 := Bb.lt
  replace Bb := Bb.ext hb rfl
  have lw0 := Bw.lt
  replace Bw := Bw.ext hb rfl
  have lx0 := Bx.lt
  replace Bx := Bx.ext hb rfl
  have ll10 := Bl1.lt
  replace Bl1 := Bl1.ext hb rfl
  have hsb : w.heap.size ≤ sb := Nat.le_trans hw.size hs0
  have hv : ∀ g, v.ownBlock = some g → w.heap.size ≤ g := fun g e => Nat.le_trans hw.size (hv0 g e)
  have nFa : ¬ Foot sb v _ := foot_old la0 hs0 hv0
  have nFb : ¬ Foot sb v _ := foot_old lb0 hs0 hv0
  have nFw : ¬ Foot sb v _ := foot_old lw0 hs0 hv0
  have nFx : ¬ Foot sb v _ := foot_old lx0 hs0 hv0
  have nFl1 : ¬ Foot sb v _ := foot_old ll10 hs0 hv0
  replace hw := hw.trans (hb.mono hw.size)
  clear hb
  obtain ⟨xa, ya, za, va⟩ := Ba.facts
  obtain ⟨xb, yb, zb, vb⟩ := Bb.facts
  obtain ⟨xw, yw, zw, vw⟩ := Bw.facts
  obtain ⟨xx, yx, zx, vx⟩ := Bx.facts
  go_wp2_with fail
  refine at_call fun W7 hW => ?_
  obtain ⟨bkl2, hbl2⟩ : ∃ b, w6.heap.size = b := ⟨_, rfl⟩
  rw [hbl2]
  have lal2 := Ba.lt
  rw [hbl2] at lal2
  have lbl2 := Bb.lt
  rw [hbl2] at lbl2
  have lwl2 := Bw.lt
  rw [hbl2] at lwl2
  have lxl2 := Bx.lt
  rw [hbl2] at lxl2
  have fl2 := hw.size
  rw [hbl2] at fl2
  have Bl2 : Box W7 bkl2 [.int .i64 0, .int .i64 0, .int .i64 2, .int .i64 0, .int .i64 1, .int .i64 0, .int .i64 0, .int .i64 2, .int .i64 0, .int .i64 1] 35 := by rw [hW]; exact Box.new hbl2.symm
  replace Ba : Box W7 (w.heap.size) [.int .i64 0, .int .i64 0] 33 := by rw [hW]; exact Ba.old _
  replace Bb : Box W7 (w.heap.size + 1) [.int .i64 2, .int .i64 0] 33 := by rw [hW]; exact Bb.old _
  replace Bw : Box W7 (bkw) [.int .i64 0, .int .i64 0, .int .i64 2, .int .i64 0, .int .i64 1] 35 := by rw [hW]; exact Bw.old _
  replace Bx : Box W7 (bkx) [.int .i64 0, .int .i64 0, .int .i64 0, .int .i64 0, .int .i64 0] 35 := by rw [hW]; exact Bx.old _
  replace hw : Below w.heap.size w W7 := by have hl := hw.size; rw [hW]; go_grown
  replace S : SetAt W7 sb v [wAB] := by rw [hW]; exact (S.alloc _)
  clear hW hbl2
  refine (new_twins wAB num_good _ W7 Bl2).mono ?_
  rintro e w8 ⟨rfl, hb⟩
  clear xa ya za va xb yb zb vb xw yw zw vw xx yx zx vx
  replace Ba := Ba.ext hb rfl
  replace Bb := Bb.ext hb rfl
  replace Bw := Bw.ext hb rfl
  replace Bx := Bx.ext hb rfl
  replace Bl2 := Bl2.ext hb rfl
  replace S := S.ext hb rfl
  replace hw := hw.trans (hb.mono hw.size)
  clear hb
  obtain ⟨xa, ya, za, va⟩ := Ba.facts
  obtain ⟨xb, yb, zb, vb⟩ := Bb.facts
  obtain ⟨xw, yw, zw, vw⟩ := Bw.facts
  obtain ⟨xx, yx, zx, vx⟩ := Bx.facts
  go_wp2_with fail
  refine at_call fun W9 hW => ?_
  obtain ⟨bkl3, hbl3⟩ : ∃ b, w8.heap.size = b := ⟨_, rfl⟩
  rw [hbl3]
  have lal3 := Ba.lt
  rw [hbl3] at lal3
  have lbl3 := Bb.lt
  rw [hbl3] at lbl3
  have lwl3 := Bw.lt
  rw [hbl3] at lwl3
  have lxl3 := Bx.lt
  rw [hbl3] at lxl3
  have fl3 := hw.size
  rw [hbl3] at fl3
  have Bl3 : Box W9 bkl3 [.int .i64 2, .int .i64 0, .int .i64 0, .int .i64 0, .int .i64 1] 35 := by rw [hW]; exact Box.new hbl3.symm
  replace Ba : Box W9 (w.heap.size) [.int .i64 0, .int .i64 0] 33 := by rw [hW]; exact Ba.old _
  replace Bb : Box W9 (w.heap.size + 1) [.int .i64 2, .int .i64 0] 33 := by rw [hW]; exact Bb.old _
  replace Bw : Box W9 (bkw) [.int .i64 0, .int .i64 0, .int .i64 2, .int .i64 0, .int .i64 1] 35 := by rw [hW]; exact Bw.old _
  replace Bx : Box W9 (bkx) [.int .i64 0, .int .i64 0, .int .i64 0, .int .i64 0, .int .i64 0] 35 := by rw [hW]; exact Bx.old _
  replace hw : Below w.heap.size w W9 := by have hl := hw.size; rw [hW]; go_grown
  replace S : SetAt W9 sb v [wAB] := by rw [hW]; exact (S.alloc _)
  clear hW hbl3
  refine (new_unmade ⟨pB, pA, 1⟩ num_bad _ W9 Bl3).mono ?_
  rintro e w10 ⟨rfl, hb⟩
  clear xa ya za va xb yb zb vb xw yw zw vw xx yx zx vx
  replace Ba := Ba.ext hb rfl
  replace Bb := Bb.ext hb rfl
  replace Bw := Bw.ext hb rfl
  replace Bx := Bx.ext hb rfl
  replace Bl3 := Bl3.ext hb rfl
  replace S := S.ext hb rfl
  replace hw := hw.trans (hb.mono hw.size)
  clear hb
  obtain ⟨xa, ya, za, va⟩ := Ba.facts
  obtain ⟨xb, yb, zb, vb⟩ := Bb.facts
  obtain ⟨xw, yw, zw, vw⟩ := Bw.facts
  obtain ⟨xx, yx, zx, vx⟩ := Bx.facts
  go_wp2_with fail
  obtain ⟨a0, cc, hvf, R⟩ := S.rd
  have co := on_set_any sb a0 cc 1 [wAB] pM w10 R
  rw [num_on] at co
  simp only [onV, wAB, pM] at co
  clear R hvf
  refine (co).mono ?_
  rintro e w11 ⟨rfl, hb⟩
  clear xa ya za va xb yb zb vb xw yw zw vw xx yx zx vx
  replace Ba := Ba.ext hb rfl
  replace Bb := Bb.ext hb rfl
  replace Bw := Bw.ext hb rfl
  replace Bx := Bx.ext hb rfl
  replace S := S.ext hb rfl
  replace hw := hw.trans (hb.mono hw.size)
  clear hb
  obtain ⟨xa, ya, za, va⟩ := Ba.facts
  obtain ⟨xb, yb, zb, vb⟩ := Bb.facts
  obtain ⟨xw, yw, zw, vw⟩ := Bw.facts
  obtain ⟨xx, yx, zx, vx⟩ := Bx.facts
  go_wp2_with fail
  refine at_call fun W12 hW => ?_
  obtain ⟨bko, hbo⟩ : ∃ b, w11.heap.size = b := ⟨_, rfl⟩
  rw [hbo]
  have lao := Ba.lt
  rw [hbo] at lao
  have lbo := Bb.lt
  rw [hbo] at lbo
  have lwo := Bw.lt
  rw [hbo] at lwo
  have lxo := Bx.lt
  rw [hbo] at lxo
  have fo := hw.size
  rw [hbo] at fo
  have Bo : Box W12 bko [.int .i64 0, .int .i64 0, .int .i64 2, .int .i64 0, .int .i64 1] 35 := by rw [hW]; exact Box.new hbo.symm
  replace Ba : Box W12 (w.heap.size) [.int .i64 0, .int .i64 0] 33 := by rw [hW]; exact Ba.old _
  replace Bb : Box W12 (w.heap.size + 1) [.int .i64 2, .int .i64 0] 33 := by rw [hW]; exact Bb.old _
  replace Bw : Box W12 (bkw) [.int .i64 0, .int .i64 0, .int .i64 2, .int .i64 0, .int .i64 1] 35 := by rw [hW]; exact Bw.old _
  replace Bx : Box W12 (bkx) [.int .i64 0, .int .i64 0, .int .i64 0, .int .i64 0, .int .i64 0] 35 := by rw [hW]; exact Bx.old _
  replace hw : Below w.heap.size w W12 := by have hl := hw.size; rw [hW]; go_grown
  have nFo : ¬ Foot sb v bko := foot_new S (by omega)
  replace S : SetAt W12 sb v [wAB] := by rw [hW]; exact (S.alloc _)
  clear hW hbo
  refine (add_any sb v [wAB] wMN (by decide) _ S).mono ?_
  rintro e w13 ⟨v2, rfl, S2, hfr, hfs⟩
  clear xa ya za va xb yb zb vb xw yw zw vw xx yx zx vx
  have Bal := Ba.lt
  have Bbl := Bb.lt
  have Bwl := Bw.lt
  have Bxl := Bx.lt
  have Bol := Bo.lt
  replace Ba := hfr.box Ba nFa
  replace Bb := hfr.box Bb nFb
  replace Bw := hfr.box Bw nFw
  replace Bx := hfr.box Bx nFx
  replace Bo := hfr.box Bo nFo
  replace nFa := foot_fresh hfs nFa (by first | exact Bal | exact Nat.lt_succ_of_lt Bal)
  replace nFb := foot_fresh hfs nFb (by first | exact Bbl | exact Nat.lt_succ_of_lt Bbl)
  replace nFw := foot_fresh hfs nFw (by first | exact Bwl | exact Nat.lt_succ_of_lt Bwl)
  replace nFx := foot_fresh hfs nFx (by first | exact Bxl | exact Nat.lt_succ_of_lt Bxl)
  replace nFo := foot_fresh hfs nFo (by first | exact Bol | exact Nat.lt_succ_of_lt Bol)
  have hv2 := fresh_lo hfs hv (by first | exact hw.size | exact Nat.le_succ_of_le hw.size)
  replace hw := hw.trans (hfr.below (foot_lo hsb hv) hw.size)
  have S := S2
  clear S2 hfr hfs
  rw [num_add.1]
  rw [num_add.2] at S
  replace hv := hv2
  clear hv2
  obtain ⟨xa, ya, za, va⟩ := Ba.facts
  obtain ⟨xb, yb, zb, vb⟩ := Bb.facts
  obtain ⟨xw, yw, zw, vw⟩ := Bw.facts
  obtain ⟨xx, yx, zx, vx⟩ := Bx.facts
  obtain ⟨xo, yo, zo, vo⟩ := Bo.facts
  go_wp2_with fail
  refine (rem_any sb v2 [wAB] pB pA _ S).mono ?_
  rintro e w14 ⟨v3, rfl, S2, hfr, hfs⟩
  clear xa ya za va xb yb zb vb xw yw zw vw xx yx zx vx xo yo zo vo
  have Bal := Ba.lt
  have Bbl := Bb.lt
  have Bwl := Bw.lt
  have Bxl := Bx.lt
  have Bol := Bo.lt
  replace Ba := hfr.box Ba nFa
  replace Bb := hfr.box Bb nFb
  replace Bw := hfr.box Bw nFw
  replace Bx := hfr.box Bx nFx
  replace Bo := hfr.box Bo nFo
  replace nFa := foot_fresh hfs nFa (by first | exact Bal | exact Nat.lt_succ_of_lt Bal)
  replace nFb := foot_fresh hfs nFb (by first | exact Bbl | exact Nat.lt_succ_of_lt Bbl)
  replace nFw := foot_fresh hfs nFw (by first | exact Bwl | exact Nat.lt_succ_of_lt Bwl)
  replace nFx := foot_fresh hfs nFx (by first | exact Bxl | exact Nat.lt_succ_of_lt Bxl)
  replace nFo := foot_fresh hfs nFo (by first | exact Bol | exact Nat.lt_succ_of_lt Bol)
  have hv2 := fresh_lo hfs hv (by first | exact hw.size | exact Nat.le_succ_of_le hw.size)
  replace hw := hw.trans (hfr.below (foot_lo hsb hv) hw.size)
  have S := S2
  clear S2 hfr hfs
  rw [num_rem.1]
  rw [num_rem.2] at S
  replace hv := hv2
  clear hv2
  obtain ⟨xa, ya, za, va⟩ := Ba.facts
  obtain ⟨xb, yb, zb, vb⟩ := Bb.facts
  obtain ⟨xw, yw, zw, vw⟩ := Bw.facts
  obtain ⟨xx, yx, zx, vx⟩ := Bx.facts
  obtain ⟨xo, yo, zo, vo⟩ := Bo.facts
  go_wp2_with fail
  obtain ⟨a1, cc1, hvf1, R1⟩ := S.rd
  have cq := clash_any sb a1 cc1 0 [] pB pA w14 R1
  rw [num_clash] at cq
  clear R1 hvf1
  refine (cq).mono ?_
  rintro e w15 ⟨rfl, hb⟩
  clear xa ya za va xb yb zb vb xw yw zw vw xx yx zx vx xo yo zo vo
  replace Ba := Ba.ext hb rfl
  replace Bb := Bb.ext hb rfl
  replace Bw := Bw.ext hb rfl
  replace Bx := Bx.ext hb rfl
  replace Bo := Bo.ext hb rfl
  replace S := S.ext hb rfl
  replace hw := hw.trans (hb.mono hw.size)
  clear hb
  obtain ⟨xa, ya, za, va⟩ := Ba.facts
  obtain ⟨xb, yb, zb, vb⟩ := Bb.facts
  obtain ⟨xw, yw, zw, vw⟩ := Bw.facts
  obtain ⟨xx, yx, zx, vx⟩ := Bx.facts
  obtain ⟨xo, yo, zo, vo⟩ := Bo.facts
  go_wp2_with fail
  obtain ⟨a2, cc2, hvf2, R2⟩ := S.rd
  have cl := len_any sb a2 cc2 0 [] w15 R2
  clear R2 hvf2
  refine (cl).mono ?_
  rintro e w16 ⟨rfl, hb⟩
  clear xa ya za va xb yb zb vb xw yw zw vw xx yx zx vx xo yo zo vo
  replace Ba := Ba.ext hb rfl
  replace Bb := Bb.ext hb rfl
  replace Bw := Bw.ext hb rfl
  replace Bx := Bx.ext hb rfl
  replace Bo := Bo.ext hb rfl
  replace S := S.ext hb rfl
  replace hw := hw.trans (hb.mono hw.size)
  clear hb
  obtain ⟨xa, ya, za, va⟩ := Ba.facts
  obtain ⟨xb, yb, zb, vb⟩ := Bb.facts
  obtain ⟨xw, yw, zw, vw⟩ := Bw.facts
  obtain ⟨xx, yx, zx, vx⟩ := Bx.facts
  obtain ⟨xo, yo, zo, vo⟩ := Bo.facts
  go_wp2_with fail
  refine (rem_any sb v3 [] pA pB _ S).mono ?_
  rintro e w17 ⟨v4, rfl, S2, hfr, hfs⟩
  clear xa ya za va xb yb zb vb xw yw zw vw xx yx zx vx xo yo zo vo
  have Bal := Ba.lt
  have Bbl := Bb.lt
  have Bwl := Bw.lt
  have Bxl := Bx.lt
  have Bol := Bo.lt
  replace Ba := hfr.box Ba nFa
  replace Bb := hfr.box Bb nFb
  replace Bw := hfr.box Bw nFw
  replace Bx := hfr.box Bx nFx
  replace Bo := hfr.box Bo nFo
  replace nFa := foot_fresh hfs nFa (by first | exact Bal | exact Nat.lt_succ_of_lt Bal)
  replace nFb := foot_fresh hfs nFb (by first | exact Bbl | exact Nat.lt_succ_of_lt Bbl)
  replace nFw := foot_fresh hfs nFw (by first | exact Bwl | exact Nat.lt_succ_of_lt Bwl)
  replace nFx := foot_fresh hfs nFx (by first | exact Bxl | exact Nat.lt_succ_of_lt Bxl)
  replace nFo := foot_fresh hfs nFo (by first | exact Bol | exact Nat.lt_succ_of_lt Bol)
  have hv2 := fresh_lo hfs hv (by first | exact hw.size | exact Nat.le_succ_of_le hw.size)
  replace hw := hw.trans (hfr.below (foot_lo hsb hv) hw.size)
  have S := S2
  clear S2 hfr hfs
  rw [num_rem0.1]
  rw [num_rem0.2] at S
  replace hv := hv2
  clear hv2
  obtain ⟨xa, ya, za, va⟩ := Ba.facts
  obtain ⟨xb, yb, zb, vb⟩ := Bb.facts
  obtain ⟨xw, yw, zw, vw⟩ := Bw.facts
  obtain ⟨xx, yx, zx, vx⟩ := Bx.facts
  obtain ⟨xo, yo, zo, vo⟩ := Bo.facts
  go_wp2_with fail
  refine (kind_nil pA pB _).mono ?_
  rintro e w18 ⟨rfl, hb⟩
  clear xa ya za va xb yb zb vb xw yw zw vw xx yx zx vx xo yo zo vo
  replace Ba := Ba.ext hb rfl
  replace Bb := Bb.ext hb rfl
  replace Bw := Bw.ext hb rfl
  replace Bx := Bx.ext hb rfl
  replace Bo := Bo.ext hb rfl
  replace S := S.ext hb rfl
  replace hw := hw.trans (hb.mono hw.size)
  clear hb
  obtain ⟨xa, ya, za, va⟩ := Ba.facts
  obtain ⟨xb, yb, zb, vb⟩ := Bb.facts
  obtain ⟨xw, yw, zw, vw⟩ := Bw.facts
  obtain ⟨xx, yx, zx, vx⟩ := Bx.facts
  obtain ⟨xo, yo, zo, vo⟩ := Bo.facts
  go_wp2_with fail
  refine (add_nil wAB (good_unm num_good) _).mono ?_
  rintro e w19 ⟨rfl, hb⟩
  clear xa ya za va xb yb zb vb xw yw zw vw xx yx zx vx xo yo zo vo
  replace Ba := Ba.ext hb rfl
  replace Bb := Bb.ext hb rfl
  replace Bw := Bw.ext hb rfl
  replace Bx := Bx.ext hb rfl
  replace Bo := Bo.ext hb rfl
  replace S := S.ext hb rfl
  replace hw := hw.trans (hb.mono hw.size)
  clear hb
  obtain ⟨xa, ya, za, va⟩ := Ba.facts
  obtain ⟨xb, yb, zb, vb⟩ := Bb.facts
  obtain ⟨xw, yw, zw, vw⟩ := Bw.facts
  obtain ⟨xx, yx, zx, vx⟩ := Bx.facts
  obtain ⟨xo, yo, zo, vo⟩ := Bo.facts
  go_wp2_with fail
  have cm := cmpW_any wAB wAB
  rw [num_cmp] at cm
  refine (cm _).mono ?_
  rintro e w20 ⟨rfl, hb⟩
  clear xa ya za va xb yb zb vb xw yw zw vw xx yx zx vx xo yo zo vo
  replace Ba := Ba.ext hb rfl
  replace Bb := Bb.ext hb rfl
  replace Bw := Bw.ext hb rfl
  replace Bx := Bx.ext hb rfl
  replace Bo := Bo.ext hb rfl
  replace S := S.ext hb rfl
  replace hw := hw.trans (hb.mono hw.size)
  clear hb
  obtain ⟨xa, ya, za, va⟩ := Ba.facts
  obtain ⟨xb, yb, zb, vb⟩ := Bb.facts
  obtain ⟨xw, yw, zw, vw⟩ := Bw.facts
  obtain ⟨xx, yx, zx, vx⟩ := Bx.facts
  obtain ⟨xo, yo, zo, vo⟩ := Bo.facts
  go_wp2
  go_ret
  exact ⟨rfl, hw⟩

end Go.Proofs.Ytpeehjkpglkikaa
