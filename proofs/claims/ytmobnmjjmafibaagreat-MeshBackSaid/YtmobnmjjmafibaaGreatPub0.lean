/- Put together: Map, WideM, ExM, Key, Region, ExA, Post, ExB, ExC, Many, Late, Slip, WideB, WideD, WideH, ExD, ExE, ExF, ExG. -/
import Derived.Maps.RangeWalk
import Derived.Maps.OwnSet
import Derived.DeepKeys4
import Derived.Below
import Derived.WalkKit
import Derived.Test.YtmobnmjjmafibaaGreatRows
import Derived.KernelRfl
import Derived.StillTail
import Derived.Lib.QuietBelow
import Derived.WalkSpells
import Derived.WalkLawsBesides
import Derived.Laws.Externs
import Derived.Deep.QuietTactic
import Derived.BigQuiet
import Derived.Lib.Hide
import Derived.Handy
import Derived.ProofKit
import Derived.ChangeSame
import Derived.Laws.MathBits
import Derived.LoopTactic
set_option maxRecDepth 100000
set_option maxHeartbeats 8000000
namespace Go.Proofs.YtmobnmjjmafibaaGreat
open Go Go.ChangeMaps Go.MapKept Go.Maps Go.RowKit
theorem tK1 {α : Type} {n : Nat} {a : α} {l : List α} : (a :: l).take (n + 1) = a :: l.take n := rfl
theorem tK0 {α : Type} {l : List α} : l.take 0 = [] := rfl
theorem dP1 {α : Type} {n : Nat} {a : α} {l : List α} : (a :: l).drop (n + 1) = l.drop n := rfl
theorem dP0 {α : Type} {l : List α} : l.drop 0 = l := rfl
theorem sT2 {α : Type} {l : List α} {i : Nat} {a : α} : l.toArray.setIfInBounds i a = (l.set i a).toArray := List.setIfInBounds_toArray l i a
theorem sT1 {α : Type} {a b : α} {l : List α} {n : Nat} : (a :: l).set (n + 1) b = a :: l.set n b := rfl
theorem sT0 {α : Type} {a b : α} {l : List α} : (a :: l).set 0 b = b :: l := rfl
theorem upB {w w' w2 : World} (h : Below w.heap.size w w') (k : Below w'.heap.size w' w2) : Below w.heap.size w w2 := h.trans (k.mono h.size)
open Go.RowKit Go.Sort in
theorem rgB {w : World} : ∀ w', Below w.heap.size w w' → ∃ p : Regrown, w' = grow (redrawn w p.d) p.os := fun _ h => regrown_of_below h
theorem J2 {p0 p1 : Prop} (h0 : p0) (h1 : p1) : p0 ∧ p1 := ⟨h0, h1⟩
theorem J3 {p0 p1 p2 : Prop} (h0 : p0) (h1 : p1) (h2 : p2) : p0 ∧ p1 ∧ p2 := ⟨h0, h1, h2⟩
theorem J4 {p0 p1 p2 p3 : Prop} (h0 : p0) (h1 : p1) (h2 : p2) (h3 : p3) : p0 ∧ p1 ∧ p2 ∧ p3 := ⟨h0, h1, h2, h3⟩
theorem J5 {p0 p1 p2 p3 p4 : Prop} (h0 : p0) (h1 : p1) (h2 : p2) (h3 : p3) (h4 : p4) : p0 ∧ p1 ∧ p2 ∧ p3 ∧ p4 := ⟨h0, h1, h2, h3, h4⟩
theorem J6 {p0 p1 p2 p3 p4 p5 : Prop} (h0 : p0) (h1 : p1) (h2 : p2) (h3 : p3) (h4 : p4) (h5 : p5) : p0 ∧ p1 ∧ p2 ∧ p3 ∧ p4 ∧ p5 := ⟨h0, h1, h2, h3, h4, h5⟩
theorem J7 {p0 p1 p2 p3 p4 p5 p6 : Prop} (h0 : p0) (h1 : p1) (h2 : p2) (h3 : p3) (h4 : p4) (h5 : p5) (h6 : p6) : p0 ∧ p1 ∧ p2 ∧ p3 ∧ p4 ∧ p5 ∧ p6 := ⟨h0, h1, h2, h3, h4, h5, h6⟩
theorem J8 {p0 p1 p2 p3 p4 p5 p6 p7 : Prop} (h0 : p0) (h1 : p1) (h2 : p2) (h3 : p3) (h4 : p4) (h5 : p5) (h6 : p6) (h7 : p7) : p0 ∧ p1 ∧ p2 ∧ p3 ∧ p4 ∧ p5 ∧ p6 ∧ p7 := ⟨h0, h1, h2, h3, h4, h5, h6, h7⟩
theorem J9 {p0 p1 p2 p3 p4 p5 p6 p7 p8 : Prop} (h0 : p0) (h1 : p1) (h2 : p2) (h3 : p3) (h4 : p4) (h5 : p5) (h6 : p6) (h7 : p7) (h8 : p8) : p0 ∧ p1 ∧ p2 ∧ p3 ∧ p4 ∧ p5 ∧ p6 ∧ p7 ∧ p8 := ⟨h0, h1, h2, h3, h4, h5, h6, h7, h8⟩
theorem J10 {p0 p1 p2 p3 p4 p5 p6 p7 p8 p9 : Prop} (h0 : p0) (h1 : p1) (h2 : p2) (h3 : p3) (h4 : p4) (h5 : p5) (h6 : p6) (h7 : p7) (h8 : p8) (h9 : p9) : p0 ∧ p1 ∧ p2 ∧ p3 ∧ p4 ∧ p5 ∧ p6 ∧ p7 ∧ p8 ∧ p9 := ⟨h0, h1, h2, h3, h4, h5, h6, h7, h8, h9⟩
theorem J11 {p0 p1 p2 p3 p4 p5 p6 p7 p8 p9 p10 : Prop} (h0 : p0) (h1 : p1) (h2 : p2) (h3 : p3) (h4 : p4) (h5 : p5) (h6 : p6) (h7 : p7) (h8 : p8) (h9 : p9) (h10 : p10) : p0 ∧ p1 ∧ p2 ∧ p3 ∧ p4 ∧ p5 ∧ p6 ∧ p7 ∧ p8 ∧ p9 ∧ p10 := ⟨h0, h1, h2, h3, h4, h5, h6, h7, h8, h9, h10⟩
theorem J12 {p0 p1 p2 p3 p4 p5 p6 p7 p8 p9 p10 p11 : Prop} (h0 : p0) (h1 : p1) (h2 : p2) (h3 : p3) (h4 : p4) (h5 : p5) (h6 : p6) (h7 : p7) (h8 : p8) (h9 : p9) (h10 : p10) (h11 : p11) : p0 ∧ p1 ∧ p2 ∧ p3 ∧ p4 ∧ p5 ∧ p6 ∧ p7 ∧ p8 ∧ p9 ∧ p10 ∧ p11 := ⟨h0, h1, h2, h3, h4, h5, h6, h7, h8, h9, h10, h11⟩
section
variable {α β : Type} [DecidableEq α]
def getE (E : List (α × β)) (x : α) : Option β := (E.find? fun p => decide (p.1 = x)).map (·.2)
def delE (E : List (α × β)) (x : α) : List (α × β) := E.filter fun p => decide (p.1 ≠ x)
def putE (E : List (α × β)) (x : α) (v : β) : List (α × β) := (x, v) :: delE E x
def KeysNodup (E : List (α × β)) : Prop := (E.map (·.1)).Nodup
omit [DecidableEq α] in
theorem KeysNodup.perm {E E' : List (α × β)} (h : KeysNodup E) (p : E.Perm E') : KeysNodup E' := (p.map _).nodup_iff.1 h
theorem zI1 {E : List (α × β)} {x : α} (h : ∀ p ∈ E, p.1 ≠ x) : getE E x = none := by
 unfold getE
 rw [List.find?_eq_none.2 (fun p hp => by simpa using h p hp)]
 rfl
theorem zEg {E : List (α × β)} {x : α} : getE E x = none ↔ ∀ p ∈ E, p.1 ≠ x := by
 refine ⟨fun h p hp e => ?_, zI1⟩
 unfold getE at h
 rw [Option.map_eq_none_iff, List.find?_eq_none] at h
 exact absurd e (by simpa using h p hp)
omit [DecidableEq α] in
theorem pairs_inj {E : List (α × β)} (hn : KeysNodup E) {p q : α × β} (hp : p ∈ E) (hq : q ∈ E) (h : p.1 = q.1) : p = q := by
 unfold KeysNodup at hn
 induction E with
 | nil => simp at hp
 | cons a r ih =>
  simp only [List.map_cons, List.nodup_cons, List.mem_map, not_exists, not_and] at hn
  rcases List.mem_cons.1 hp with rfl | hp'
  ·rcases List.mem_cons.1 hq with rfl | hq'
   ·rfl
   ·exact absurd h.symm (hn.1 q hq')
  ·rcases List.mem_cons.1 hq with rfl | hq'
   ·exact absurd h (hn.1 p hp')
   ·exact ih hn.2 hp' hq'
theorem zGa {E : List (α × β)} (hn : KeysNodup E) {x : α} {v : β} (h : (x, v) ∈ E) : getE E x = some v := by
 unfold getE
 cases hf : E.find? fun p => decide (p.1 = x) with
 | none =>
  rw [List.find?_eq_none] at hf
  exact absurd (hf _ h) (by simp)
 | some q =>
  have h1 := List.mem_of_find?_eq_some hf
  have h2 := List.find?_some hf
  simp only [decide_eq_true_eq] at h2
  rw [pairs_inj hn h1 h h2]
  rfl
theorem zJ6 {E : List (α × β)} {x : α} {v : β} (h : getE E x = some v) : (x, v) ∈ E := by
 unfold getE at h
 cases hf : E.find? fun p => decide (p.1 = x) with
 | none => rw [hf] at h; cases h
 | some q =>
  rw [hf] at h
  have h1 := List.mem_of_find?_eq_some hf
  have h2 := List.find?_some hf
  simp only [decide_eq_true_eq] at h2
  simp only [Option.map_some, Option.some.injEq] at h
  rw [← h2, ← h]; exact h1
theorem getE_iff {E : List (α × β)} (hn : KeysNodup E) {x : α} {v : β} : getE E x = some v ↔ (x, v) ∈ E := ⟨zJ6, zGa hn⟩
theorem zDu {E : List (α × β)} {x : α} (h : ∀ p ∈ E, p.1 ≠ x) : delE E x = E := List.filter_eq_self.2 fun p hp => by simpa using h p hp
theorem delE_perm {E : List (α × β)} (hn : KeysNodup E) {p : α × β} (hp : p ∈ E) : E.Perm (p :: delE E p.1) := by
 unfold KeysNodup at hn
 induction E with
 | nil => simp at hp
 | cons a r ih =>
  simp only [List.map_cons, List.nodup_cons, List.mem_map, not_exists, not_and] at hn
  rcases List.mem_cons.1 hp with rfl | hp'
  ·have : delE (p :: r) p.1 = r := by
      unfold delE
      rw [List.filter_cons_of_neg (by simp)]
      exact List.filter_eq_self.2 fun q hq => by simpa using hn.1 q hq
   rw [this]
  ·have hne : a.1 ≠ p.1 := fun e => hn.1 p hp' e.symm
   have : delE (a :: r) p.1 = a :: delE r p.1 := by
    unfold delE
    rw [List.filter_cons_of_pos (by simpa using hne)]
   rw [this]
   exact ((ih hn.2 hp').cons a).trans (List.Perm.swap _ _ _)
theorem zC2 {E : List (α × β)} (hn : KeysNodup E) (x : α) : KeysNodup (delE E x) := by
 unfold KeysNodup delE
 exact (List.filter_sublist.map _).nodup hn
theorem zCk {E : List (α × β)} (hn : KeysNodup E) (x : α) (v : β) : KeysNodup (putE E x v) := by
 unfold KeysNodup putE
 simp only [List.map_cons, List.nodup_cons]
 refine ⟨?_, zC2 hn x⟩
 simp [delE]
structure KV (P : Program) (k e t : TypeId) (eK : α → Value) (ok : α → Prop) : Prop where
 keyed : Keyed P k
 ty : P.underlying t = some (.map k e)
 key : ∀ x, ok x → ∃ l, keyOf P k (eK x) = some l
 inj : ∀ {x y}, eK x = eK y → x = y
def HoldsMap (eK : α → Value) (eV : β → Value) (ok : α → Prop) (w : World) (b : Nat) (E : List (α × β)) : Prop :=
 ∃ es clock, w.heap[b]? = some (.map es clock) ∧ Stamped es clock ∧ KeysNodup E ∧ (∀ p ∈ E, ok p.1) ∧ (es.toList.map fun x => (x.key, x.val)).Perm (E.map fun p => (eK p.1, eV p.2))
variable {P : Program} {k e t : TypeId} {eK : α → Value} {eV : β → Value} {ok : α → Prop} {w : World} {b : Nat} {E : List (α × β)}
omit [DecidableEq α] in
theorem HoldsMap.lt (h : HoldsMap eK eV ok w b E) : b < w.heap.size := by
 obtain ⟨es, clock, hb, _⟩ := h
 exact (Array.getElem?_eq_some_iff.1 hb).1
omit [DecidableEq α] in
theorem HoldsMap.nodup (h : HoldsMap eK eV ok w b E) : KeysNodup E := h.elim fun _ h => h.elim fun _ h => h.2.2.1
omit [DecidableEq α] in
theorem HoldsMap.perm (h : HoldsMap eK eV ok w b E) {E' : List (α × β)} (hp : E.Perm E') : HoldsMap eK eV ok w b E' := by
 obtain ⟨es, clock, hb, hs, hn, ho, hm⟩ := h
 exact ⟨es, clock, hb, hs, hn.perm hp, fun p h => ho p (hp.mem_iff.2 h), hm.trans (hp.map _)⟩
omit [DecidableEq α] in
theorem HoldsMap.kept {w' : World} {row : Option Nat} (h : HoldsMap eK eV ok w b E) (hg : w.grownBy w' row) (hne : some b ≠ row) : HoldsMap eK eV ok w' b E := by
 have hlt := h.lt
 obtain ⟨es, clock, hb, r⟩ := h
 exact ⟨es, clock, (hg.block b hlt hne).trans hb, r⟩
omit [DecidableEq α] in
theorem HoldsMap.ext {w' : World} {n : Nat} (h : HoldsMap eK eV ok w b E) (hg : Below n w w') (hn : n = w.heap.size) : HoldsMap eK eV ok w' b E := by
 have hlt := h.lt
 obtain ⟨es, clock, hb, r⟩ := h
 exact ⟨es, clock, (hg.block b (hn ▸ hlt)).trans hb, r⟩
omit [DecidableEq α] in
theorem HoldsMap.ee {w' : World} (h : HoldsMap eK eV ok w b E) (hg : Below w.heap.size w w') : HoldsMap eK eV ok w' b E := h.ext hg rfl
omit [DecidableEq α] in
theorem HoldsMap.alloc (h : HoldsMap eK eV ok w b E) (o : Obj) : HoldsMap eK eV ok (w.alloc o) b E := h.kept (World.grownBy_alloc w o none) (by simp)
omit [DecidableEq α] in
theorem HoldsMap.made (w : World) : HoldsMap eK eV ok (w.alloc (.map #[] 0)) w.heap.size ([] : List (α × β)) :=
 ⟨#[], 0, (MapKept.heap_alloc w _).1, stamped_empty 0, by simp [KeysNodup], by simp, by simp⟩
omit [DecidableEq α] in
theorem HoldsMap.set_ne (h : HoldsMap eK eV ok w b E) (a : Addr) (v : Value) (hne : a.block ≠ b) : HoldsMap eK eV ok (w.setCell a v) b E := by
 obtain ⟨es, clock, hb, r⟩ := h
 refine ⟨es, clock, ?_, r⟩
 simp only [World.setCell, Array.getElem?_modify]
 rw [if_neg hne, hb]
omit [DecidableEq α] in
theorem zI9 {es : Array MapEntry} (hp : (es.toList.map fun x => (x.key, x.val)).Perm (E.map fun p => (eK p.1, eV p.2))) :
    ∀ x ∈ es.toList, ∃ p ∈ E, x.key = eK p.1 ∧ x.val = eV p.2 := fun x hx => by
 have h1 := hp.mem_iff.1 (List.mem_map.2 ⟨x, hx, rfl⟩)
 obtain ⟨p, hp1, hp2⟩ := List.mem_map.1 h1
 simp only [Prod.mk.injEq] at hp2
 exact ⟨p, hp1, hp2.1.symm, hp2.2.symm⟩
omit [DecidableEq α] in
theorem zF3 (V : KV P k e t eK ok) {es : Array MapEntry} (ho : ∀ p ∈ E, ok p.1) (hp : (es.toList.map fun x => (x.key, x.val)).Perm (E.map fun p => (eK p.1, eV p.2))) :
    ∀ x ∈ es.toList, ∃ l, keyOf P k x.key = some l := fun x hx => by
 obtain ⟨p, h1, h2, _⟩ := zI9 hp x hx
 obtain ⟨l, hl⟩ := V.key p.1 (ho p h1)
 exact ⟨l, by rw [h2]; exact hl⟩
omit [DecidableEq α] in
theorem zHe {es : Array MapEntry} (hp : (es.toList.map fun x => (x.key, x.val)).Perm (E.map fun p => (eK p.1, eV p.2))) {x : α} (h : ∀ y ∈ es.toList, y.key ≠ eK x) : ∀ p ∈ E, p.1 ≠ x := fun p hp' e => by
 have h1 := hp.mem_iff.2 (List.mem_map.2 ⟨p, hp', rfl⟩)
 obtain ⟨y, hy, he⟩ := List.mem_map.1 h1
 simp only [Prod.mk.injEq] at he
 exact h y hy (by rw [he.1, e])
theorem zGx {γ : Type} : ∀ (l : List γ) (j : Nat) (h : j < l.length), l.Perm (l[j] :: l.eraseIdx j)
 | a :: r, 0, _ => List.Perm.refl _
 | a :: r, j + 1, h => ((zGx r j (by simpa using h)).cons a).trans (List.Perm.swap _ _ _)
theorem zG5 (V : KV P k e t eK ok) {es : Array MapEntry} (hn : KeysNodup E) (hp : (es.toList.map fun x => (x.key, x.val)).Perm (E.map fun p => (eK p.1, eV p.2))) {x : α} {j : Nat} {e0 : MapEntry} (h2 : es.toList[j]? = some e0) (h3 : e0.key = eK x) :
    ∃ v, (x, v) ∈ E ∧ e0.val = eV v ∧ getE E x = some v ∧ ((es.toList.map fun x => (x.key, x.val)).eraseIdx j).Perm ((delE E x).map fun p => (eK p.1, eV p.2)) := by
 have hm0 : e0 ∈ es.toList := List.mem_of_getElem? h2
 obtain ⟨p, hp1, hp2, hp3⟩ := zI9 hp e0 hm0
 obtain ⟨y, v⟩ := p
 obtain rfl : y = x := V.inj (by rw [← hp2, h3])
 refine ⟨v, hp1, hp3, zGa hn hp1, ?_⟩
 have a1 := (delE_perm hn hp1).map fun p : α × β => (eK p.1, eV p.2)
 have a2 : (es.toList.map fun x => (x.key, x.val)).Perm ((e0.key, e0.val) :: (es.toList.map fun x => (x.key, x.val)).eraseIdx j) := by
  have hj : j < (es.toList.map fun x => (x.key, x.val)).length := by simpa using (List.getElem?_eq_some_iff.1 h2).1
  have hg : (es.toList.map fun x => (x.key, x.val))[j] = (e0.key, e0.val) := by
   have := (List.getElem?_eq_some_iff.1 h2).2
   simp only [List.getElem_map, this]
  rw [← hg]
  exact zGx _ _ hj
 have a3 := a2.symm.trans (hp.trans a1)
 rw [List.map_cons, hp2, hp3] at a3
 exact a3.cons_inv
theorem HoldsMap.look (V : KV P k e t eK ok) (h : HoldsMap eK eV ok w b E) {z : Value} (hz : (zeroValue e).run P w = .ok z w) {x : α} (hx : ok x) :
    (Instr.lookup t (.map (some b)) (eK x) true).run P w = .ok (match getE E x with | some v => .tuple #[eV v, .bool true] | none => .tuple #[z, .bool false]) w := by
 obtain ⟨es, clock, hb, hs, hn, ho, hp⟩ := h
 obtain ⟨l, hl⟩ := V.key x hx
 rcases V.keyed.find w hl es.toList (zF3 V ho hp) with ⟨h1, h2⟩ | ⟨j, e0, h1, h2, h3⟩
 ·rw [zI1 (zHe hp h2)]
  simp [Instr.lookup, run_underlying V.ty, MapKept.run_getObj_map hb, V.keyed.check w _ hl, h1, hz, Result.andThen]
 ·obtain ⟨v, _, hv, hg, _⟩ := zG5 V hn hp h2 h3
  rw [hg]
  simp [Instr.lookup, run_underlying V.ty, MapKept.run_getObj_map hb, V.keyed.check w _ hl, h1, Result.andThen, hv]
theorem HoldsMap.put (V : KV P k e t eK ok) (h : HoldsMap eK eV ok w b E) {x : α} (hx : ok x) (v : β) :
    ∃ w', (Instr.mapUpdate t (.map (some b)) (eK x) (eV v)).run P w = .ok () w' ∧ HoldsMap eK eV ok w' b (putE E x v) ∧ w.grownBy w' (some b) ∧ w'.heap.size = w.heap.size := by
 obtain ⟨es, clock, hb, hs, hn, ho, hp⟩ := h
 obtain ⟨l, hl⟩ := V.key x hx
 have hgr : ∀ o', w.grownBy (setBlock w b o') (some b) := fun o' => ⟨rfl, rfl, rfl, by simp [setBlock], fun i _ hi => heap_setBlock_other hb _ (fun e => hi (by rw [e]))⟩
 have hok : ∀ p ∈ putE E x v, ok p.1 := fun p hp' => by
  rcases List.mem_cons.1 hp' with rfl | h'
  ·exact hx
  ·exact ho p (List.mem_filter.1 h').1
 rcases V.keyed.find w hl es.toList (zF3 V ho hp) with ⟨h1, h2⟩ | ⟨j, e0, h1, h2, h3⟩
 ·refine ⟨setBlock w b (.map (es.push ⟨eK x, eV v, clock⟩) (clock + 1)), ?_, ⟨_, _, heap_setBlock_same hb _, stamped_push hs h2, zCk hn x v, hok, ?_⟩, hgr _, by simp [setBlock]⟩
  ·simp [Instr.mapUpdate, run_underlying V.ty, MapKept.run_getObj_map hb, V.keyed.check w false hl, h1, MapKept.run_setObj_map _ hb, Result.andThen, setBlock]
  ·unfold putE
   rw [zDu (zHe hp h2), Array.toList_push, List.map_append, List.map_cons]
   exact (List.perm_append_comm.trans ((hp.cons _)))
 ·have hj : es[j]? = some e0 := by simpa using h2
  have hjl : j < es.toList.length := (List.getElem?_eq_some_iff.1 h2).1
  have hlist : (es.modify j (fun e' => { e' with key := eK x, val := eV v })).toList = es.toList.set j { e0 with key := eK x, val := eV v } := by rw [Array.toList_modify, modify_eq_set _ _ _ _ h2]
  refine ⟨setBlock w b (.map (es.modify j (fun e' => { e' with key := eK x, val := eV v })) clock), ?_, ⟨_, _, heap_setBlock_same hb _, stamped_modify hs _ _ (fun _ _ => rfl) (fun e' _ he' => by rw [hj] at he'; cases he'; exact h3.symm), zCk hn x v, hok, ?_⟩, hgr _, by simp [setBlock]⟩
  ·simp [Instr.mapUpdate, run_underlying V.ty, MapKept.run_getObj_map hb, V.keyed.check w false hl, h1, hj, h3, V.keyed.stays w hl, MapKept.run_setObj_map _ hb, Result.andThen, setBlock]
  ·obtain ⟨v0, _, _, _, hpe⟩ := zG5 V hn hp h2 h3
   rw [hlist, List.map_set]
   unfold putE
   rw [List.map_cons]
   exact (set_perm _ _ (by simpa using hjl) _).trans (hpe.cons _)
theorem HoldsMap.del {ty : TypeId} (V : KV P k e t eK ok) (h : HoldsMap eK eV ok w b E) {x : α} (hx : ok x) :
    ∃ w', (Builtin.delete_ #[t, k] ty #[.map (some b), eK x]).run P w = .ok (.tuple #[]) w' ∧ HoldsMap eK eV ok w' b (delE E x) ∧ w.grownBy w' (some b) ∧ w'.heap.size = w.heap.size := by
 obtain ⟨es, clock, hb, hs, hn, ho, hp⟩ := h
 obtain ⟨l, hl⟩ := V.key x hx
 have hgr : ∀ o', w.grownBy (setBlock w b o') (some b) := fun o' => ⟨rfl, rfl, rfl, by simp [setBlock], fun i _ hi => heap_setBlock_other hb _ (fun e => hi (by rw [e]))⟩
 have hok : ∀ p ∈ delE E x, ok p.1 := fun p hp' => ho p (List.mem_filter.1 hp').1
 rcases V.keyed.find w hl es.toList (zF3 V ho hp) with ⟨h1, h2⟩ | ⟨j, e0, h1, h2, h3⟩
 ·refine ⟨setBlock w b (.map es clock), ?_, ⟨_, _, heap_setBlock_same hb _, hs, zC2 hn x, hok, ?_⟩, hgr _, by simp [setBlock]⟩
  ·simp [Builtin.delete_, run_underlying V.ty, MapKept.run_getObj_map hb, V.keyed.check w _ hl, h1, MapKept.run_setObj_map _ hb, Result.andThen, setBlock]
  ·rw [zDu (zHe hp h2)]; exact hp
 ·have hjl : j < es.toList.length := (List.getElem?_eq_some_iff.1 h2).1
  have hjs : j < es.size := by simpa using hjl
  have hsub : (es.eraseIdxIfInBounds j).toList = es.toList.eraseIdx j := by
   unfold Array.eraseIdxIfInBounds
   rw [dif_pos hjs]
   simp
  obtain ⟨v0, _, _, _, hpe⟩ := zG5 V hn hp h2 h3
  refine ⟨setBlock w b (.map (es.eraseIdxIfInBounds j) clock), ?_, ⟨_, _, heap_setBlock_same hb _, stamped_erase hs j, zC2 hn x, hok, ?_⟩, hgr _, by simp [setBlock]⟩
  ·simp [Builtin.delete_, run_underlying V.ty, MapKept.run_getObj_map hb, V.keyed.check w _ hl, h1, MapKept.run_setObj_map _ hb, Result.andThen, setBlock]
  ·rw [hsub, map_eraseIdx]; exact hpe
omit [DecidableEq α] in
theorem HoldsMap.len {ty : TypeId} (V : KV P k e t eK ok) (h : HoldsMap eK eV ok w b E) : (Builtin.len_ #[t] ty #[.map (some b)]).run P w = .ok (.int .i64 E.length) w := by
 obtain ⟨es, clock, hb, hs, hn, ho, hp⟩ := h
 have hl : es.size = E.length := by simpa using hp.length_eq
 rw [← hl]
 simp [Builtin.len_, run_underlying V.ty, MapKept.run_getObj_map hb, Result.andThen]
 rfl
/-! ### 'for k, v := range m' under way: R is still to come -/
def Ranging (eK : α → Value) (eV : β → Value) (ok : α → Prop) (w : World) (b r : Nat) (E R : List (α × β)) : Prop :=
 ∃ es clock since seen c0, w.heap[b]? = some (.map es clock) ∧ Stamped es clock ∧ KeysNodup E ∧ (∀ p ∈ E, ok p.1) ∧ (es.toList.map fun x => (x.key, x.val)).Perm (E.map fun p => (eK p.1, eV p.2)) ∧
  w.heap[r]? = some (.mapIter (some b) since seen c0) ∧ (∀ x ∈ es.toList, x.born < since) ∧ ((leftOf es seen).toList.map fun x => (x.key, x.val)).Perm (R.map fun p => (eK p.1, eV p.2)) ∧ (∀ p ∈ R, p ∈ E) ∧ since ≤ c0 ∧ since ≤ clock
omit [DecidableEq α] in
theorem Ranging.holds {r : Nat} {R : List (α × β)} (h : Ranging eK eV ok w b r E R) : HoldsMap eK eV ok w b E := by
 obtain ⟨es, clock, _, _, _, hb, hs, hn, ho, hp, _⟩ := h
 exact ⟨es, clock, hb, hs, hn, ho, hp⟩
omit [DecidableEq α] in
theorem Ranging.lt {r : Nat} {R : List (α × β)} (h : Ranging eK eV ok w b r E R) : r < w.heap.size := by
 obtain ⟨es, clock, _, _, _, _, _, _, _, _, hr, _⟩ := h
 exact (Array.getElem?_eq_some_iff.1 hr).1
omit [DecidableEq α] in
theorem Ranging.sub {r : Nat} {R : List (α × β)} (h : Ranging eK eV ok w b r E R) : ∀ p ∈ R, p ∈ E := by
 obtain ⟨_, _, _, _, _, _, _, _, _, _, _, _, _, hs, _⟩ := h
 exact hs
omit [DecidableEq α] in
theorem Ranging.ne {r : Nat} {R : List (α × β)} (h : Ranging eK eV ok w b r E R) : r ≠ b := by
 obtain ⟨es, clock, _, _, _, hb, _, _, _, _, hr, _⟩ := h
 intro e1
 rw [e1, hb] at hr
 cases hr
omit [DecidableEq α] in
theorem Ranging.kept {r : Nat} {R : List (α × β)} {w' : World} {row : Option Nat} (h : Ranging eK eV ok w b r E R) (hg : w.grownBy w' row) (h1 : some b ≠ row) (h2 : some r ≠ row) : Ranging eK eV ok w' b r E R := by
 have l1 := h.holds.lt
 have l2 := h.lt
 obtain ⟨es, clock, since, seen, c0, hb, hs, hn, ho, hp, hr, rest⟩ := h
 exact ⟨es, clock, since, seen, c0, (hg.block b l1 h1).trans hb, hs, hn, ho, hp, (hg.block r l2 h2).trans hr, rest⟩
omit [DecidableEq α] in
theorem Ranging.ext {r : Nat} {R : List (α × β)} {w' : World} {n : Nat} (h : Ranging eK eV ok w b r E R) (hg : Below n w w') (hn : n = w.heap.size) : Ranging eK eV ok w' b r E R :=
 h.kept (row := none) ⟨hg.os, hg.tape, hg.output, hg.size, fun i hi _ => hg.block i (hn ▸ hi)⟩ (by simp) (by simp)
omit [DecidableEq α] in
theorem Ranging.ee {r : Nat} {R : List (α × β)} {w' : World} (h : Ranging eK eV ok w b r E R) (hg : Below w.heap.size w w') : Ranging eK eV ok w' b r E R := h.ext hg rfl
omit [DecidableEq α] in
theorem HoldsMap.range (V : KV P k e t eK ok) (h : HoldsMap eK eV ok w b E) :
    ∃ w', (Instr.range t (.map (some b))).run P w = .ok (.pointer (some ⟨w.heap.size, 0, none⟩)) w' ∧ Ranging eK eV ok w' b w.heap.size E E ∧ Below w.heap.size w w' ∧ w'.heap.size = w.heap.size + 1 := by
 have hlt := h.lt
 obtain ⟨es, clock, hb, hs, hn, ho, hp⟩ := h
 refine ⟨_, run_range_map w t k e b es clock V.ty hb, ⟨es, clock, clock, #[], clock, ((MapKept.heap_alloc w _).2 b hlt).trans hb, hs, hn, ho, hp, (MapKept.heap_alloc w _).1, hs.1, ?_, fun _ h => h, Nat.le_refl _, Nat.le_refl _⟩, ⟨rfl, rfl, rfl, by simp, fun i hi => (MapKept.heap_alloc w _).2 i hi⟩, by simp⟩
 have : leftOf es #[] = es := by unfold leftOf; exact Array.filter_eq_self.2 (fun x _ => by simp)
 rw [this]; exact hp
omit [DecidableEq α] in
theorem Ranging.next {r : Nat} {R : List (α × β)} (h : Ranging eK eV ok w b r E R) (ty : TypeId) :
    (R = [] ∧ (Instr.next (.pointer (some ⟨r, 0, none⟩)) false ty).run P w = .ok (.tuple #[.bool false]) w) ∨
    ∃ p R' w', R.Perm (p :: R') ∧ (Instr.next (.pointer (some ⟨r, 0, none⟩)) false ty).run P w = .ok (.tuple #[.bool true, eK p.1, eV p.2]) w' ∧ Ranging eK eV ok w' b r E R' ∧
     w.grownBy w' (some r) ∧ w'.heap.size = w.heap.size ∧ (Instr.entry (.pointer (some ⟨r, 0, none⟩))).run P w' = .ok (.tuple #[eK p.1, eV p.2]) w' := by
 have hne := h.ne
 obtain ⟨es, clock, since, seen, c0, hb, hs, hn, ho, hp, hr, hold, hleft, hsub, hsc, hsk⟩ := h
 rcases run_next_at (P := P) w ty r b since c0 seen es clock hr hb hold hsc with ⟨h0, hrun⟩ | ⟨x, hx, w1, hal, hrun⟩
 ·refine Or.inl ⟨?_, hrun⟩
  have := hleft.length_eq
  rw [List.length_map, Array.length_toList, h0, List.length_map] at this
  exact List.eq_nil_of_length_eq_zero this.symm
 ·obtain ⟨hem, hes⟩ := mem_left hx
  have hst := (stamped_iff es clock).1 hs
  have hm := hleft.mem_iff.1 (List.mem_map.2 ⟨x, hx, rfl⟩)
  obtain ⟨p, hpR, hpe⟩ := List.mem_map.1 hm
  simp only [Prod.mk.injEq] at hpe
  obtain ⟨R1, R2, rfl⟩ := List.append_of_mem hpR
  have hr1 : w1.heap[r]? = some (.mapIter (some b) since seen c0) := by rcases hal with rfl | rfl <;> exact hr
  have hb1 : w1.heap[b]? = some (.map es clock) := by rcases hal with rfl | rfl <;> exact hb
  have hset := heap_set (o' := .mapIter (some b) since (seen.push x.born) clock) hr1
  have hb' : (setBlock w1 r (.mapIter (some b) since (seen.push x.born) clock)).heap[b]? = some (.map es clock) := (hset.2 b (fun e1 => hne e1.symm)).trans hb1
  have hbn : (es.toList.map (·.born)).Nodup := hst.2.1
  have hl2 : (leftOf es seen).toList.Perm (x :: (leftOf es (seen.push x.born)).toList) := by
   have e1 : (leftOf es seen).toList = es.toList.filter (fun y => !seen.contains y.born) := by unfold leftOf; rw [Array.toList_filter]
   have e2 : (leftOf es (seen.push x.born)).toList = es.toList.filter (fun y => !seen.contains y.born && !(y.born == x.born)) := by
    unfold leftOf; rw [Array.toList_filter]
    congr 1; funext y; rw [contains_push]; simp
   rw [e1, e2]
   have hgen : ∀ l : List MapEntry, (l.map (·.born)).Nodup → x ∈ l → (l.filter (fun y => !seen.contains y.born)).Perm (x :: l.filter (fun y => !seen.contains y.born && !(y.born == x.born))) := by
    intro l
    induction l with
    | nil => intro _ h; simp at h
    | cons a r ih =>
     intro hnn hin
     simp only [List.map_cons, List.nodup_cons, List.mem_map, not_exists, not_and] at hnn
     rcases List.mem_cons.1 hin with rfl | hin'
     ·rw [List.filter_cons_of_pos (by simpa using hes), List.filter_cons_of_neg (by simp)]
      rw [show r.filter (fun y => !seen.contains y.born && !(y.born == x.born)) = r.filter (fun y => !seen.contains y.born) from ?_]
      refine List.filter_congr fun y hy => ?_
      have : y.born ≠ x.born := hnn.1 y hy
      simp [this]
     ·have hax : a.born ≠ x.born := fun e1 => hnn.1 x hin' e1.symm
      cases hc : seen.contains a.born
      ·rw [List.filter_cons_of_pos (by simpa using hc), List.filter_cons_of_pos (by simp [hax]; simpa using hc)]
       exact ((ih hnn.2 hin').cons a).trans (List.Perm.swap _ _ _)
      ·rw [List.filter_cons_of_neg (by simpa using hc), List.filter_cons_of_neg (by simp; simpa using fun h => absurd hc (by simpa using h))]
       exact ih hnn.2 hin'
   exact hgen _ hbn hem
  have hperm : (R1 ++ p :: R2).Perm (p :: (R1 ++ R2)) := List.perm_middle
  refine Or.inr ⟨p, R1 ++ R2, _, hperm, by rw [hpe.1, hpe.2]; exact hrun, ⟨es, clock, since, seen.push x.born, clock, hb', hs, hn, ho, hp, hset.1, hold, ?_, fun q hq => hsub q (hperm.mem_iff.2 (List.mem_cons_of_mem _ hq)), hsk, hsk⟩, ?_, ?_, ?_⟩
  ·have a1 := (hl2.map fun x => (x.key, x.val)).symm.trans (hleft.trans (hperm.map _))
   simp only [List.map_cons] at a1
   rw [← hpe.1, ← hpe.2] at a1
   exact a1.cons_inv
  ·rcases hal with rfl | rfl <;> exact ⟨rfl, rfl, rfl, by simp [setBlock], fun i _ hi => hset.2 i (fun e1 => hi (by rw [e1]))⟩
  ·rcases hal with rfl | rfl <;> simp [setBlock]
  ·rw [hpe.1, hpe.2]; exact run_entry_at _ r b since seen es clock x hset.1 hb' hem hst.2.1
end
/-! ### at the operations -/
section
variable {α β : Type} [DecidableEq α] {P : Program} {k e t : TypeId} {eK : α → Value} {eV : β → Value} {ok : α → Prop} {b : Nat} {E : List (α × β)} (w : World) {ops : Array Oper} {rest : List Oper} {o : Oper} {a : Act} {Q : Exit → Act → World → Prop}
theorem zBg (hg : o.guard = none) (m x v : Operand) (hop : o.op = Op.mapUpdate t m x v) (V : KV P k e t eK ok)
    (hm : a.eval m = .map (some b)) (h : HoldsMap eK eV ok w b E) (key : α) (val : β) (hx : a.eval x = eK key) (hv : a.eval v = eV val) (hk : ok key)
    (hK : ∀ w', HoldsMap eK eV ok w' b (putE E key val) → w.grownBy w' (some b) → w'.heap.size = w.heap.size → wpList P ops Q rest (a.put o.dst undef) w') : wpList P ops Q (o :: rest) a w := by
 refine wpList_plain hg fun K' hK' => ?_
 obtain ⟨w', hrun, r1, r2, r3⟩ := h.put V hk val
 unfold Oper.wp
 simp [execOp, hop, hm, hx, hv, hrun, Result.andThen]
 exact hK' _ _ (hK w' r1 r2 r3)
theorem zBo (hg : o.guard = none) (m x : Operand) (hop : o.op = Op.call { callee := Callee.builtin Builtin.delete, args := #[m, x], argTypes := #[t, k] }) (V : KV P k e t eK ok)
    (hm : a.eval m = .map (some b)) (h : HoldsMap eK eV ok w b E) (key : α) (hx : a.eval x = eK key) (hk : ok key)
    (hK : ∀ w', HoldsMap eK eV ok w' b (delE E key) → w.grownBy w' (some b) → w'.heap.size = w.heap.size → wpList P ops Q rest (a.put o.dst (.tuple #[])) w') : wpList P ops Q (o :: rest) a w := by
 refine wpList_plain hg fun K' hK' => ?_
 obtain ⟨w', hrun, r1, r2, r3⟩ := h.del (ty := o.type) V hk
 unfold Oper.wp
 simp [execOp, hop, resolve, invoke, builtin, hm, hx, hrun, Result.andThen]
 exact hK' _ _ (hK w' r1 r2 r3)
omit [DecidableEq α] in
theorem zF7 (hg : o.guard = none) (m : Operand) (hop : o.op = Op.call { callee := Callee.builtin Builtin.len, args := #[m], argTypes := #[t] }) (V : KV P k e t eK ok)
    (hm : a.eval m = .map (some b)) (h : HoldsMap eK eV ok w b E) (hK : wpList P ops Q rest (a.put o.dst (.int .i64 E.length)) w) : wpList P ops Q (o :: rest) a w := by
 refine wpList_plain hg fun K' hK' => ?_
 unfold Oper.wp
 simp [execOp, hop, resolve, invoke, builtin, hm, h.len (ty := o.type) V, Result.andThen]
 exact hK' _ _ hK
omit [DecidableEq α] in
theorem zB7 (hg : o.guard = none) (m : Operand) (hop : o.op = Op.range t m) (V : KV P k e t eK ok) (hm : a.eval m = .map (some b)) (h : HoldsMap eK eV ok w b E)
    (hK : ∀ w', Ranging eK eV ok w' b w.heap.size E E → Below w.heap.size w w' → w'.heap.size = w.heap.size + 1 → wpList P ops Q rest (a.put o.dst (.pointer (some ⟨w.heap.size, 0, none⟩))) w') : wpList P ops Q (o :: rest) a w := by
 refine wpList_plain hg fun K' hK' => ?_
 obtain ⟨w', hrun, r1, r2, r3⟩ := h.range V
 unfold Oper.wp
 simp [execOp, hop, hm, hrun, Result.andThen]
 exact hK' _ _ (hK w' r1 r2 r3)
omit [DecidableEq α] in
theorem zBh {r : Nat} {R : List (α × β)} (hg : o.guard = none) (it : Operand) (hop : o.op = Op.next it false) (hit : a.eval it = .pointer (some ⟨r, 0, none⟩)) (h : Ranging eK eV ok w b r E R)
    (hDone : R = [] → wpList P ops Q rest (a.put o.dst (.tuple #[.bool false])) w)
    (hMore : ∀ p R' w', R.Perm (p :: R') → Ranging eK eV ok w' b r E R' → w.grownBy w' (some r) → w'.heap.size = w.heap.size → (Instr.entry (.pointer (some ⟨r, 0, none⟩))).run P w' = .ok (.tuple #[eK p.1, eV p.2]) w' →
     wpList P ops Q rest (a.put o.dst (.tuple #[.bool true, eK p.1, eV p.2])) w') : wpList P ops Q (o :: rest) a w := by
 refine wpList_plain hg fun K' hK' => ?_
 unfold Oper.wp
 rcases h.next (P := P) o.type with ⟨h0, hrun⟩ | ⟨p, R', w', hp, hrun, hrg, hgr, hsz, hen⟩
 ·simp [execOp, hop, hit, hrun, Result.andThen]
  exact hK' _ _ (hDone h0)
 ·simp [execOp, hop, hit, hrun, Result.andThen]
  exact hK' _ _ (hMore p R' w' hp hrg hgr hsz hen)
end
end Go.Proofs.YtmobnmjjmafibaaGreat
namespace Go.Proofs.YtmobnmjjmafibaaGreat
open Go.RowKit
def M : Int := 18446744073709551616
def V (h l : Int) : Int := h * 18446744073709551616 + l
def fits (n : Int) : Bool := decide (-170141183460469231731687303715884105728 ≤ n) && decide (n ≤ 170141183460469231731687303715884105727)
def cH (n : Int) : Int := if fits n = true then n / 18446744073709551616 else 0
def cL (n : Int) : Int := if fits n = true then n % 18446744073709551616 else 0
def sgn (n : Int) : Int := if n < 0 then -1 else if 0 < n then 1 else 0
def lo (x y : Int) : Int := (x + y) % 18446744073709551616
def cy (x y : Int) : Int := (x + y) / 18446744073709551616
structure Ok (h l : Int) : Prop where
 h0 : -9223372036854775808 ≤ h
 h1 : h ≤ 9223372036854775807
 l0 : 0 ≤ l
 l1 : l ≤ 18446744073709551615
theorem zAi {n : Int} : fits n = true ↔ -170141183460469231731687303715884105728 ≤ n ∧ n ≤ 170141183460469231731687303715884105727 := by
 simp [fits]
theorem ok_c (n : Int) : Ok (cH n) (cL n) := by
 unfold cH cL
 split
 ·rename_i h; rw [zAi] at h; exact ⟨by omega, by omega, by omega, by omega⟩
 ·exact ⟨by omega, by omega, by omega, by omega⟩
theorem V_c {n : Int} (h : fits n = true) : V (cH n) (cL n) = n := by
 unfold cH cL V; rw [if_pos h, if_pos h]; omega
theorem w64 (n : Int) : wrap64 n = (n + 9223372036854775808) % 18446744073709551616 - 9223372036854775808 := by
 simp only [wrap64]
theorem sg_i64 : IntKind.i64.signed = true := rfl
theorem sg_u64 : IntKind.u64.signed = false := rfl
theorem bv_not (n : Int) : BitVec.ofInt 64 (-1) ^^^ BitVec.ofInt 64 n = BitVec.ofInt 64 (-1 - n) := by
 have h1 : BitVec.ofInt 64 (-1) = BitVec.allOnes 64 := by decide
 have h3 : BitVec.ofInt 64 (-n) = ~~~BitVec.ofInt 64 n + 1#64 := by rw [BitVec.ofInt_neg, BitVec.neg_eq_not_add]
 have h2 : ∀ x : BitVec 64, BitVec.allOnes 64 + (x + 1#64) = x := fun x => by
  rw [BitVec.add_comm x, ← BitVec.add_assoc]
  have : BitVec.allOnes 64 + 1#64 = 0#64 := by decide
  rw [this, BitVec.zero_add]
 rw [Int.sub_eq_add_neg, BitVec.ofInt_add, h3, h1, BitVec.allOnes_xor, h2]
theorem xor_i64 (n : Int) (h0 : -9223372036854775808 ≤ n) (h1 : n ≤ 9223372036854775807) : bits .xor .i64 (-1) n = -1 - n := by
 show IntKind.i64.wrap ((BitVec.ofInt 64 (-1) ^^^ BitVec.ofInt 64 n).toNat : Int) = _
 rw [bv_not, BitVec.toNat_ofInt, IntKind.wrap_i64]
 omega
theorem xor_u64 (n : Int) (h0 : 0 ≤ n) (h1 : n ≤ 18446744073709551615) : bits .xor .u64 IntKind.u64.max n = 18446744073709551615 - n := by
 show IntKind.u64.wrap ((BitVec.ofInt 64 (IntKind.u64.max) ^^^ BitVec.ofInt 64 n).toNat : Int) = _
 have : BitVec.ofInt 64 IntKind.u64.max = BitVec.ofInt 64 (-1) := by decide
 rw [this, bv_not, BitVec.toNat_ofInt, IntKind.wrap_u64]
 omega
/- The document's own answer reckons modulo 2^128. -/
def mH (n : Int) : Int := wrap64 (n / 18446744073709551616)
def mL (n : Int) : Int := n % 18446744073709551616
theorem ok_m (n : Int) : Ok (mH n) (mL n) := by
 unfold mH mL wrap64; exact ⟨by omega, by omega, by omega, by omega⟩
theorem V_m (n : Int) : ∃ k : Int, V (mH n) (mL n) = n + k * 340282366920938463463374607431768211456 := by
 unfold mH mL wrap64 V
 exact ⟨-((n / 18446744073709551616 + 9223372036854775808) / 18446744073709551616), by omega⟩
theorem m_add (n k : Int) : mH (n + k * 340282366920938463463374607431768211456) = mH n ∧ mL (n + k * 340282366920938463463374607431768211456) = mL n := by
 unfold mH mL wrap64; omega
theorem m_c {n : Int} (h : fits n = true) : mH n = cH n ∧ mL n = cL n := by
 unfold cH cL; rw [if_pos h, if_pos h]; rw [zAi] at h; unfold mH mL wrap64; omega
theorem m_cong {a b : Int} (k : Int) (e : a = b + k * 340282366920938463463374607431768211456) : mH a = mH b ∧ mL a = mL b := by
 subst e; exact m_add b k
theorem m_sum {h1 l1 h2 l2 : Int} (k : Ok h1 l1) (q : Ok h2 l2) : mL (V h1 l1 + V h2 l2) = lo l1 l2 ∧ mH (V h1 l1 + V h2 l2) = wrap64 (wrap64 (h1 + h2) + cy l1 l2) := by
 obtain ⟨a1, a2, a3, a4⟩ := k; obtain ⟨b1, b2, b3, b4⟩ := q
 unfold mL mH lo cy wrap64 V; omega
theorem mul_bound (a b : Int) (a0 : -9223372036854775808 ≤ a) (a1 : a ≤ 9223372036854775807) (b0 : -9223372036854775808 ≤ b) (b1 : b ≤ 9223372036854775807) :
    -85070591730234615865843651857942052864 ≤ a * b ∧ a * b ≤ 85070591730234615865843651857942052864 := by
 have h1 : (a.natAbs : Int) * b.natAbs ≤ 9223372036854775808 * 9223372036854775808 := by
  have : a.natAbs * b.natAbs ≤ 9223372036854775808 * 9223372036854775808 := Nat.mul_le_mul (by omega) (by omega)
  have e : (a.natAbs : Int) * b.natAbs = ((a.natAbs * b.natAbs : Nat) : Int) := (Int.natCast_mul _ _).symm
  rw [e]
  generalize a.natAbs * b.natAbs = p at *
  omega
 have h2 : (a * b).natAbs = a.natAbs * b.natAbs := Int.natAbs_mul a b
 have h3 : ((a * b).natAbs : Int) = (a.natAbs : Int) * b.natAbs := by rw [h2]; exact Int.natCast_mul _ _
 generalize a * b = p at *
 omega
theorem fits_mul (a b : Int) (a0 : -9223372036854775808 ≤ a) (a1 : a ≤ 9223372036854775807) (b0 : -9223372036854775808 ≤ b) (b1 : b ≤ 9223372036854775807) : fits (a * b) = true := by
 have := mul_bound a b a0 a1 b0 b1
 rw [zAi]; omega
theorem ok_w (x y : Int) : Ok (wrap64 x) (IntKind.u64.wrap y) := by
 rw [IntKind.wrap_u64]; unfold wrap64; exact ⟨by omega, by omega, by omega, by omega⟩
theorem halves (X Y : Int) (x0 : 0 ≤ X) (x1 : X ≤ 9223372036854775808) (y0 : 0 ≤ Y) (y1 : Y ≤ 9223372036854775808) :
    V (wrap64 (IntKind.u64.wrap (X / 4294967296 * (Y / 4294967296)))) (IntKind.u64.wrap (X % 4294967296 * (Y % 4294967296))) +
    V (wrap64 (IntKind.u64.wrap (X % 4294967296 * (Y / 4294967296)) / 4294967296)) (IntKind.u64.wrap (IntKind.u64.wrap (X % 4294967296 * (Y / 4294967296)) * 4294967296)) +
    V (wrap64 (IntKind.u64.wrap (X / 4294967296 * (Y % 4294967296)) / 4294967296)) (IntKind.u64.wrap (IntKind.u64.wrap (X / 4294967296 * (Y % 4294967296)) * 4294967296)) = X * Y := by
 have b1 : 0 ≤ X / 4294967296 ∧ X / 4294967296 ≤ 2147483648 := by omega
 have b2 : 0 ≤ X % 4294967296 ∧ X % 4294967296 ≤ 4294967295 := by omega
 have b3 : 0 ≤ Y / 4294967296 ∧ Y / 4294967296 ≤ 2147483648 := by omega
 have b4 : 0 ≤ Y % 4294967296 ∧ Y % 4294967296 ≤ 4294967295 := by omega
 have ex : X = X / 4294967296 * 4294967296 + X % 4294967296 := by omega
 have ey : Y = Y / 4294967296 * 4294967296 + Y % 4294967296 := by omega
 generalize X / 4294967296 = xh at *
 generalize X % 4294967296 = xl at *
 generalize Y / 4294967296 = yh at *
 generalize Y % 4294967296 = yl at *
 have pb : ∀ p q P Q : Int, 0 ≤ p → p ≤ P → 0 ≤ q → q ≤ Q → 0 ≤ p * q ∧ p * q ≤ P * Q := fun p q P Q h1 h2 h3 h4 =>
  ⟨Int.mul_nonneg h1 h3, Int.mul_le_mul h2 h4 h3 (Int.le_trans h1 h2)⟩
 have p1 := pb xh yh _ _ b1.1 b1.2 b3.1 b3.2
 have p2 := pb xl yl _ _ b2.1 b2.2 b4.1 b4.2
 have p3 := pb xl yh _ _ b2.1 b2.2 b3.1 b3.2
 have p4 := pb xh yl _ _ b1.1 b1.2 b4.1 b4.2
 have e : X * Y = xh * yh * 18446744073709551616 + (xh * yl + xl * yh) * 4294967296 + xl * yl := by rw [ex, ey]; grind
 rw [e]
 generalize xh * yh = A at *
 generalize xl * yl = B at *
 generalize xl * yh = C at *
 generalize xh * yl = D at *
 simp only [IntKind.wrap_u64]
 unfold wrap64 V
 omega
theorem lo_lt {l1 l2 : Int} (a : 0 ≤ l1) (b : l1 ≤ 18446744073709551615) (c : 0 ≤ l2) (d : l2 ≤ 18446744073709551615) : (lo l1 l2 < l1 → cy l1 l2 = 1) ∧ (l1 ≤ lo l1 l2 → cy l1 l2 = 0) := by
 unfold lo cy; omega
structure Pt where
 x : Int
 y : Int
theorem Pt.eq_iff {p q : Pt} : p = q ↔ p.x = q.x ∧ p.y = q.y := by
 cases p; cases q; simp
def inG (n : Int) : Bool := decide (0 ≤ n ∧ n < 16777216)
def vld (p : Pt) : Bool := inG p.x && inG p.y
def cmpN (a b : Int) : Int := sgn (a - b)
def cmpP (p q : Pt) : Int := if p.x = q.x then cmpN p.y q.y else cmpN p.x q.x
def det (a b c : Pt) : Int := (b.x - a.x) * (c.y - a.y) - (b.y - a.y) * (c.x - a.x)
def ori (a b c : Pt) : Int := if vld a = true ∧ vld b = true ∧ vld c = true then sgn (det a b c) else 0
theorem zAr {p : Pt} : vld p = true ↔ (0 ≤ p.x ∧ p.x < 16777216) ∧ 0 ≤ p.y ∧ p.y < 16777216 := by simp [vld, inG]
instance : DecidableEq Pt := fun p q => decidable_of_iff (p.x = q.x ∧ p.y = q.y) Pt.eq_iff.symm
instance : Inhabited Pt := ⟨⟨0, 0⟩⟩
@[reducible] def eW (w : Pt × Pt) : Value := .agg #[.int .i64 w.1.x, .int .i64 w.1.y, .int .i64 w.2.x, .int .i64 w.2.y]
def okI (n : Int) : Prop := (Lit.int .i64 n).wf = true
def okP (p : Pt) : Prop := okI p.x ∧ okI p.y
def okW (w : Pt × Pt) : Prop := okP w.1 ∧ okP w.2
theorem eW_inj {v w : Pt × Pt} (h : eW v = eW w) : v = w := by
 obtain ⟨⟨a, b⟩, ⟨c, d⟩⟩ := v
 obtain ⟨⟨e, f⟩, ⟨g, i⟩⟩ := w
 simpa [eW, and_assoc] using h
theorem laidTry : laidOutB Tryz.prog = true := by kernel_rfl
theorem zIz {P : Program} {t : TypeId} (ht : P.underlying t = some (.int .i64)) (d : Nat) {n : Int} (h : okI n) : P.keyLits (d + 1) t [.int .i64 n] = some [.int .i64 n] := by
 unfold okI at h
 simp only [Program.keyLits, ht, h, and_self, if_true]
theorem zIy {P : Program} {t : TypeId} {f g : Field} (ht : P.underlying t = some (.struct #[f, g])) (hc : P.cellsOf t = P.cellsOf f.type + P.cellsOf g.type) (hf : f.name ≠ "_") (hg : g.name ≠ "_") (ho : f.offset = 0) (hp : g.offset = P.cellsOf f.type) (d : Nat)
    {xs ys : List Value} {a b : List Lit} (h1 : xs.length = P.cellsOf f.type) (h2 : ys.length = P.cellsOf g.type) (h3 : P.keyLits d f.type xs = some a) (h4 : P.keyLits d g.type ys = some b) : P.keyLits (d + 1) t (xs ++ ys) = some (a ++ b) := by
 have e1 : ((xs ++ ys).drop f.offset).take (P.cellsOf f.type) = xs := by rw [ho, List.drop_zero, ← h1]; simp
 have e2 : ((xs ++ ys).drop g.offset).take (P.cellsOf g.type) = ys := by rw [hp, ← h1, ← h2]; simp
 simp only [Program.keyLits, ht]
 rw [if_pos ⟨by simp [h1, h2, hc], by simp [hf, hg]⟩]
 simp [e1, e2, h3, h4]
theorem zJx (d : Nat) (p : Pt) (h : okP p) : Tryz.prog.keyLits (d + 1 + 1) 30 [.int .i64 p.x, .int .i64 p.y] = some [.int .i64 p.x, .int .i64 p.y] :=
 zIy Tryz.underlying30 (by kernel_rfl) (by decide) (by decide) rfl (by kernel_rfl) (d + 1) (xs := [.int .i64 p.x]) (ys := [.int .i64 p.y]) (by kernel_rfl) (by kernel_rfl) (zIz Tryz.underlying3 d h.1) (zIz Tryz.underlying3 d h.2)
theorem zK1 {t : TypeId} {f g : Field} (ht : Tryz.prog.underlying t = some (.struct #[f, g])) (hk : Tryz.prog.keyType t = true) (hc : Tryz.prog.cellsOf t = 4) (hf : f.name ≠ "_") (hg : g.name ≠ "_") (ho : f.offset = 0) (hp : g.offset = 2)
    (tf : f.type = 30) (tg : g.type = 30) (w : Pt × Pt) (h : okW w) (hfm : Value.formed Tryz.prog t (eW w) = true) : ∃ l, keyOf Tryz.prog t (eW w) = some l := by
 have hP : Tryz.prog.cellsOf 30 = 2 := by kernel_rfl
 have hn : 2 ≤ Tryz.prog.types.size := of_decide_eq_true (by kernel_rfl)
 obtain ⟨d, hd⟩ : ∃ d, Tryz.prog.types.size + 1 = d + 1 + 1 + 1 := ⟨Tryz.prog.types.size - 2, by omega⟩
 have hl := zIy (P := Tryz.prog) ht (by rw [tf, tg, hP, hc]) hf hg ho (by rw [tf, hP, hp]) (d + 1 + 1) (xs := [.int .i64 w.1.x, .int .i64 w.1.y]) (ys := [.int .i64 w.2.x, .int .i64 w.2.y]) (by rw [tf, hP]; rfl) (by rw [tg, hP]; rfl)
  (by rw [tf]; exact zJx d w.1 h.1) (by rw [tg]; exact zJx d w.2 h.2)
 unfold keyOf
 simp only [ht, hk, hfm, Bool.and_self, if_true, hd]
 exact ⟨_, congrArg (Option.map _) hl⟩
theorem zHy {t : TypeId} {fs : Array Field} (ht : Tryz.prog.underlying t = some (.struct fs)) (h1 : t < Tryz.prog.types.size) (h2 : Tryz.prog.keyTypeAt 5 t = true) : Go.Maps.Keyed Tryz.prog t := by
 refine Go.Maps.Keyed.of_law (deep_law_laid laidTry (m := 5) (by decide) h1 h2 ?_)
 rw [ht]
theorem kvM : KV Tryz.prog 113 38 87 eW okW where
 keyed := zHy Tryz.underlying113 (of_decide_eq_true (by kernel_rfl)) (by kernel_rfl)
 ty := Tryz.underlying87
 key w h := zK1 Tryz.underlying113 (by kernel_rfl) (by kernel_rfl) (by decide) (by decide) rfl rfl rfl rfl w h (by kernel_rfl)
 inj := eW_inj
theorem kvR : KV Tryz.prog 93 38 39 eW okW where
 keyed := zHy Tryz.underlying93 (of_decide_eq_true (by kernel_rfl)) (by kernel_rfl)
 ty := Tryz.underlying39
 key w h := zK1 Tryz.underlying93 (by kernel_rfl) (by kernel_rfl) (by decide) (by decide) rfl rfl rfl rfl w h (by kernel_rfl)
 inj := eW_inj
end Go.Proofs.YtmobnmjjmafibaaGreat
namespace Go.Proofs.YtmobnmjjmafibaaGreat
open Go.RowKit Go.Sort
theorem zAl {k : IntKind} {a b : Int} (h : a = b) : Ending.returned (.int k a) = .returned (.int k b) := by rw [h]
theorem zCh {a b : Bool} (h : a = b) : Ending.returned (.bool a) = .returned (.bool b) := by rw [h]
theorem zA2 {P : Program} {c : Code} {Q : Exit → Act → World → Prop} {a : Act} {W0 : World} (h : ∀ W, W = W0 → c.wp P Q a W) : c.wp P Q a W0 := h W0 rfl
theorem bcell {n : Nat} {W w1 : World} (hb : Below n W w1) (hn : n = W.heap.size) :
    (∀ b o, b < n → w1.cell? ⟨b, o, none⟩ = W.cell? ⟨b, o, none⟩) ∧ (∀ b o, b < n → w1.frozen? ⟨b, o, none⟩ = W.frozen? ⟨b, o, none⟩) ∧
    (∀ b, b < n → b < w1.heap.size) ∧ (∀ b, b < n → (b = w1.heap.size) = False) ∧ (∀ b, b < n → (w1.heap.size = b) = False) :=
 ⟨fun b o h => hb.cell (p := ⟨b, o, none⟩) h, fun b o h => hb.frozen (p := ⟨b, o, none⟩) h, fun b h => by have := hn ▸ hb.size; omega,
  fun b h => by have := hn ▸ hb.size; simp; omega, fun b h => by have := hn ▸ hb.size; simp; omega⟩
theorem cell?_none_set (w : World) (a : Addr) (v : Value) (h : w.cell? a = none) : (w.setCell a v).cell? a = none := by
 unfold World.cell? at h ⊢
 simp only [World.setCell, Array.getElem?_modify, ↓reduceIte]
 cases hh : w.heap[a.block]? with
 | none => rfl
 | some x =>
  rw [hh] at h
  cases x with
  | cells c e f =>
   simp only [Option.map_some]
   simp only at h
   cases hs : a.spot.isSome with
   | true => simp
   | false =>
    rw [hs] at h
    simp only [Bool.false_eq_true, if_false] at h ⊢
    have : c.size ≤ a.off := Array.getElem?_eq_none_iff.1 h
    rw [Array.getElem?_eq_none_iff]
    simpa using this
  | _ => rfl
theorem cell_set (w : World) (a b : Addr) (v : Value) : (w.setCell a v).cell? b = if a = b then (if (w.cell? a).isSome = true then some v else none) else w.cell? b := by
 by_cases h : a = b
 ·subst h
  rw [if_pos rfl]
  cases hc : w.cell? a with
  | none => simp [cell?_none_set w a v hc]
  | some u => rw [World.cell?_setCell_same (h := hc)]; simp
 ·rw [if_neg h, World.cell?_setCell_other (h := h)]
section
variable {P : Program} {ops : Array Oper} {md : Region.Mode} {C : World → Prop}
def Ext (w w' : World) : Prop := Below w.heap.size w w'
def rUpon (P : Program) (w : World) (v : Value) : Result Next → Prop
 | .ok (.value u) w' => w' = w ∧ u = v
 | .ok .skip w' => w' = w ∧ v = undef
 | .ok (.enter f args) w' => w' = w ∧ Calls P f args w (fun e w'' => e = .returned v ∧ Ext w w'')
 | _ => False
def rAt (P : Program) (o : Oper) (a : Act) (w : World) (v : Value) : Prop := rUpon P w v ((execOp a.eval o).run P w)
def rOper (P : Program) (o : Oper) (a : Act) (C : World → Prop) (next : Act → Prop) : Prop := ∃ v, (∀ w, C w → rAt P o a w v) ∧ next (a.put o.dst v)
def rWalk (P : Program) (ops : Array Oper) (C : World → Prop) (Q : Act → Prop) : List Oper → Act → Prop
 | [], a => Q a
 | o :: rest, a => if Region.wanted o (yielded ops a.tmps) then rOper P o a C (rWalk P ops C Q rest) else rWalk P ops C Q rest (a.put o.dst undef)
theorem rWalk_nil {Q : Act → Prop} {a : Act} (h : Q a) : rWalk P ops C Q [] a := h
theorem rWalk_step {Q : Act → Prop} {a : Act} {o : Oper} {rest : List Oper}
    (h : ∀ K : Act → Prop, (∀ a, rWalk P ops C Q rest a → K a) → if Region.wanted o (yielded ops a.tmps) then rOper P o a C K else K (a.put o.dst undef)) : rWalk P ops C Q (o :: rest) a :=
 h _ (fun _ h => h)
def rYields (P : Program) (ops : Array Oper) (C : World → Prop) (o : Oper) (v : Value) (a : Act) : Prop :=
 (Region.wanted o (yielded ops a.tmps) = true ∧ ∀ w, C w → rAt P o a w v) ∨ (Region.wanted o (yielded ops a.tmps) = false ∧ v = undef)
theorem rYields.same {o : Oper} {v : Value} {a a' : Act} (hy : rYields P ops C o v a) (he : execOp a'.eval o = execOp a.eval o)
    (hw : Region.wanted o (yielded ops a'.tmps) = Region.wanted o (yielded ops a.tmps)) : rYields P ops C o v a' := by
 unfold rYields rAt at *
 rw [he, hw]
 exact hy
theorem rYields.of_walk {o : Oper} {rest : List Oper} {Q : Act → Prop} {a : Act} (h : rWalk P ops C Q (o :: rest) a) : ∃ v, rYields P ops C o v a ∧ rWalk P ops C Q rest (a.put o.dst v) := by
 simp only [rWalk] at h
 cases hw : Region.wanted o (yielded ops a.tmps) with
 | true =>
  rw [hw, if_pos rfl] at h
  obtain ⟨v, h1, h2⟩ := h
  exact ⟨v, .inl ⟨hw, h1⟩, h2⟩
 | false =>
  rw [hw, if_neg (by simp)] at h
  exact ⟨undef, .inr ⟨hw, rfl⟩, h⟩
def rAny (P : Program) (md : Region.Mode) (ops : Array Oper) (C : World → Prop) (n : Nat) (L : Array Bool → Act → Prop) : Nat → Array Bool → Act → Prop
 | 0, listed, a => L listed a
 | f + 1, listed, a => Region.ready md ops listed ≠ [] ∧
  ∀ i ∈ Region.ready md ops listed, i < n ∧ ∃ o v, ops[i]? = some o ∧ rYields P ops C o v a ∧ rAny P md ops C n L f (listed.setIfInBounds i true) (a.put o.dst v)
def TailWaits (md : Region.Mode) (ops : Array Oper) (n : Nat) (listed : Array Bool) : Prop :=
 ∀ i, i < n → listed.getD i true = false → ∀ t, n ≤ t → t ∉ Region.ready md ops listed
theorem zDh {n i : Nat} {oi : Oper} {v : Value} {L : Array Bool → Act → Prop} (hi : ops[i]? = some oi) (hsel : ∀ (j : Nat) (o : Oper) cs b, ops[j]? = some o → o.op ≠ .select cs b)
    (hin : i < n) (Inv : Array Bool → Prop) (hinv : ∀ listed j, Inv listed → j ∈ Region.ready md ops listed → j < n → Inv (listed.setIfInBounds j true))
    (htail : ∀ listed, Inv listed → TailWaits md ops n listed)
    (hdone : ∀ listed a, L listed a → ∀ j ∈ Region.ready md ops listed, n ≤ j) :
    ∀ (f : Nat) (listed : Array Bool) (a : Act), Inv listed →
     (∀ j oj, ops[j]? = some oj → j ≠ i → listed.getD j true = false → (∀ e ∈ oj.after, Region.binds md e = true → e.on ≠ i) → oi.apart ops oj = true) →
     i ∈ Region.ready md ops listed → rYields P ops C oi v a →
     rAny P md ops C n L f (listed.setIfInBounds i true) (a.put oi.dst v) → rAny P md ops C n L (f + 1) listed a := by
 intro f
 induction f with
 | zero =>
  intro listed a inv _ hr hy H
  have hun := (mem_ready.1 hr).1
  refine ⟨fun h => (by rw [h] at hr; cases hr), fun j hj => ?_⟩
  have hjn : j < n := by
   rcases Nat.lt_or_ge j n with h | h
   ·exact h
   ·exact absurd hj (htail _ inv i hin hun j h)
  by_cases hji : j = i
  ·subst hji; exact ⟨hjn, oi, v, hi, hy, H⟩
  ·have := hdone _ _ H j (ready_mono hj hji)
   omega
 | succ f ih =>
  intro listed a inv hfree hr hy H
  have hun := (mem_ready.1 hr).1
  refine ⟨fun h => (by rw [h] at hr; cases hr), fun j hj => ?_⟩
  have hjn : j < n := by
   rcases Nat.lt_or_ge j n with h | h
   ·exact h
   ·exact absurd hj (htail _ inv i hin hun j h)
  by_cases hji : j = i
  ·subst hji; exact ⟨hjn, oi, v, hi, hy, H⟩
  ·obtain ⟨_, oj, u, hoj, hyj, hK⟩ := H.2 j (ready_mono hj hji)
   obtain ⟨hjun, oj', hoj', hall⟩ := mem_ready.1 hj
   have hoo : oj' = oj := Option.some.inj (hoj'.symm.trans hoj)
   subst hoo
   have hnot : ∀ e ∈ oj'.after, Region.binds md e = true → e.on ≠ i := fun e he hb heq => by
    have h1 := hall e he hb
    rw [heq, getD_both hun] at h1
    cases h1
   obtain ⟨h1, h2, h3⟩ := Oper.apart_spec (hfree j oj' hoj hji hjun hnot)
   have hyj' : rYields P ops C oj' u a := hyj.same (execOp_put oj' (fun cs b => hsel j oj' cs b hoj) a oi.dst v h1).symm (wanted_put oj' a oi.dst v h1).symm
   have hyi' : rYields P ops C oi v (a.put oj'.dst u) := hy.same (execOp_put oi (fun cs b => hsel i oi cs b hi) a oj'.dst u h3) (wanted_put oi a oj'.dst u h3)
   refine ⟨hjn, oj', u, hoj, hyj', ?_⟩
   refine ih (listed.setIfInBounds j true) _ (hinv _ _ inv hj hjn) (fun k ok hk hki hun' hno => ?_) (ready_mono hr (Ne.symm hji)) hyi' ?_
   ·refine hfree k ok hk hki ?_ hno
    by_cases hjk : j = k
    ·subst hjk; exact hjun
    ·rw [getD_set_ne true hjk] at hun'; exact hun'
   ·rw [Array.setIfInBounds_comm _ _ hji, ← Act.put_comm a v u h2]
    exact hK
def orderB (md : Region.Mode) (ops : Array Oper) (n g : Nat) : List Nat → Array Bool → Bool
 | [], listed => Region.seqB md ops g n listed
 | k :: is, listed => decide (k < n) && (Region.ready md ops listed).contains k && Region.free md ops listed k && orderB md ops n g is (listed.setIfInBounds k true)
theorem zBt {n g : Nat} {Lq : Act → Prop} (hsel : Region.noSelect ops = true) (Inv : Array Bool → Prop)
    (hinv : ∀ listed j, Inv listed → j ∈ Region.ready md ops listed → j < n → Inv (listed.setIfInBounds j true)) (htail : ∀ listed, Inv listed → TailWaits md ops n listed) :
    ∀ (is : List Nat) (l : List Oper) (listed : Array Bool) (a : Act), is.map (fun i => ops[i]?) = l.map some → Inv listed → orderB md ops n g is listed = true → rWalk P ops C Lq l a →
     rAny P md ops C n (fun listed' a' => Region.seqB md ops g n listed' = true ∧ Lq a') is.length listed a
 | [], [], listed, a, _, _, hB, h => ⟨hB, h⟩
 | [], _ :: _, _, _, hl, _, _, _ => by cases hl
 | _ :: _, [], _, _, hl, _, _, _ => by cases hl
 | k :: is, o :: l, listed, a, hl, inv, hB, h => by
  simp only [List.map_cons, List.cons.injEq] at hl
  obtain ⟨h0, hl⟩ := hl
  simp only [orderB, Bool.and_eq_true, decide_eq_true_eq] at hB
  obtain ⟨⟨⟨hkn, hr⟩, hf⟩, hB'⟩ := hB
  have hr' : k ∈ Region.ready md ops listed := by simpa using hr
  obtain ⟨v, hy, hK⟩ := rYields.of_walk h
  exact zDh h0 (Region.noSelect_spec hsel) hkn Inv hinv htail (fun listed' a' hL => seqB_ready hL.1) is.length listed a inv (Region.free_spec h0 hf) hr' hy
   (zBt hsel Inv hinv htail is l _ _ hl (hinv _ _ inv hr' hkn) hB' hK)
theorem heap_new (w : World) (o : Obj) : (w.alloc o).heap[w.heap.size]? = some o := by
 show (w.heap.push o)[w.heap.size]? = some o
 simp
theorem alloc_cell (w : World) (o : Obj) (b i : Nat) (h : (b = w.heap.size) = False) : (w.alloc o).cell? ⟨b, i, none⟩ = w.cell? ⟨b, i, none⟩ :=
 World.cell?_alloc_old w o ⟨b, i, none⟩ (by simpa using h)
theorem alloc_frozen (w : World) (o : Obj) (b i : Nat) (h : (b = w.heap.size) = False) : (w.alloc o).frozen? ⟨b, i, none⟩ = w.frozen? ⟨b, i, none⟩ := by
 have h' : b ≠ w.heap.size := by simpa using h
 simp only [World.frozen?, World.alloc, Array.getElem?_push, if_neg h']
def Box (w : World) (b : Nat) (cs : List Value) (T : TypeId) : Prop := w.heap[b]? = some (.cells cs.toArray T (0, 0))
theorem Box.f {w : World} {b : Nat} {cs : List Value} {T : TypeId} (h : Box w b cs T) :
    (∀ i, w.cell? ⟨b, i, none⟩ = cs[i]?) ∧ (∀ i, w.frozen? ⟨b, i, none⟩ = false) ∧ ((b = w.heap.size) = False) ∧ ((w.heap.size = b) = False) := by
 have hb : b < w.heap.size := by
  rcases Nat.lt_or_ge b w.heap.size with h' | h'
  ·exact h'
  ·unfold Box at h; rw [Array.getElem?_eq_none h'] at h; cases h
 refine ⟨fun i => ?_, fun i => ?_, by simp; omega, by simp; omega⟩
 ·unfold Box at h; simp [World.cell?, h]
 ·unfold Box at h; simp [World.frozen?, h]
theorem Box.lt {w : World} {b : Nat} {cs : List Value} {T : TypeId} (h : Box w b cs T) : b < w.heap.size := by
 rcases Nat.lt_or_ge b w.heap.size with h' | h'
 ·exact h'
 ·unfold Box at h; rw [Array.getElem?_eq_none h'] at h; cases h
theorem Box.ext {w w' : World} {b n : Nat} {cs : List Value} {T : TypeId} (h : Box w b cs T) (hb : Below n w w') (hn : n = w.heap.size) : Box w' b cs T := by
 unfold Box at *
 rw [hb.block b (hn ▸ Box.lt h)]; exact h
theorem Box.ee {w w' : World} {b : Nat} {cs : List Value} {T : TypeId} (h : Box w b cs T) (hb : Below w.heap.size w w') : Box w' b cs T := h.ext hb rfl
theorem Box.grown {w : World} {b : Nat} {cs : List Value} {T : TypeId} (h : Box w b cs T) : ∀ d os, Box (grow (redrawn w d) os) b cs T := fun d os =>
 h.ext (below_regrown w d os) rfl
theorem Box.cells {w : World} {b : Nat} {cs : List Value} {T : TypeId} (h : Box w b cs T) : ∀ d os i, (grow (redrawn w d) os).cell? ⟨b, i, none⟩ = cs[i]? := fun d os => (h.grown d os).f.1
theorem heap_alloc (w : World) (o : Obj) (b : Nat) : (w.alloc o).heap[b]? = if b = w.heap.size then some o else w.heap[b]? := by
 show (w.heap.push o)[b]? = _
 rw [Array.getElem?_push]
theorem Box.new {w : World} {b : Nat} {cs : List Value} {T : TypeId} (hb : b = w.heap.size) : Box (w.alloc (.cells cs.toArray T)) b cs T := by
 unfold Box; rw [heap_alloc, if_pos hb]
theorem Box.old {w : World} {b : Nat} {cs : List Value} {T : TypeId} (h : Box w b cs T) (o : Obj) : Box (w.alloc o) b cs T := by
 have := Box.lt h
 unfold Box at *; rw [heap_alloc, if_neg (by omega), h]
theorem Box.set {w : World} {b : Nat} {cs : List Value} {T : TypeId} (h : Box w b cs T) (i : Nat) (v : Value) : Box (w.setCell ⟨b, i, none⟩ v) b (cs.set i v) T := by
 unfold Box at *
 simp only [World.setCell, Array.getElem?_modify, ↓reduceIte, h, Option.map_some]
 simp
theorem Box.set_ne {w : World} {b : Nat} {cs : List Value} {T : TypeId} (h : Box w b cs T) (a : Addr) (v : Value) (hne : a.block ≠ b) : Box (w.setCell a v) b cs T := by
 unfold Box at *
 simp only [World.setCell, Array.getElem?_modify]
 rw [if_neg hne, h]
theorem Box.sn {w : World} {b : Nat} {cs : List Value} {T : TypeId} (h : Box w b cs T) (k i : Nat) (v : Value) (hk : k ≠ b) : Box (w.setCell ⟨k, i, none⟩ v) b cs T := h.set_ne ⟨k, i, none⟩ v hk
theorem zA1 {P : Program} {f : FuncId} {args : Array Value} {R : Ending → World → Prop} {W0 : World} (h : ∀ W, W = W0 → Calls P f args W R) : Calls P f args W0 R := h W0 rfl
theorem Ext.trans {a b c : World} (h : Ext a b) (k : Ext b c) : Ext a c := Below.trans h (Below.mono k h.size)
theorem zAq {i : Nat} {o : Oper} {v : Value} {a : Act} {K : Act → World → Prop} {Q : Exit → Act → World → Prop} {w : World} (hi : ops[i]? = some o) (hC : C w) (hy : rYields P ops C o v a)
    (h : ∀ w', Ext w w' → K (a.put o.dst v) w') : wpOp P ops Q i K a w := by
 have hrefl : Ext w w := Below.refl _ _
 unfold wpOp
 simp only [hi]
 rcases hy with ⟨hw, hv⟩ | ⟨hw, rfl⟩
 ·rw [if_pos hw]
  refine .inl ?_
  have h3 := hv w hC
  unfold rAt at h3
  unfold Oper.wp
  generalize (execOp a.eval o).run P w = r at *
  cases r with
  | ok n w' =>
   cases n <;> simp only [rUpon] at h3 <;> simp only [Oper.upon]
   case value u => obtain ⟨e1, e2⟩ := h3; rw [e1, e2]; exact h _ hrefl
   case skip => obtain ⟨e1, e2⟩ := h3; rw [e1, ← e2]; exact h _ hrefl
   case enter f args =>
    obtain ⟨e1, hc⟩ := h3
    rw [e1]
    exact hc.mono fun e w'' ⟨he, hw''⟩ => by subst he; exact h _ hw''
  | halt x w' => simp only [rUpon] at h3
 ·rw [hw, if_neg (by simp)]
  exact h _ hrefl
theorem zB0 {n g : Nat} {Q : Exit → Act → World → Prop} {Lq : Act → Prop} {l : List Oper} {dst : Option Tmp} {u : Value} {D : World → Prop} (hsel : Region.noSelect ops = true)
    (hg : l.length = g) (hl : ∀ j, l[j]? = ops[n + j]?) (hD : ∀ w, D w → C w) (hDe : ∀ w w', D w → Ext w w' → D w')
    (J : Nat → Prop) (hap : ∀ i o, i < n → ¬ J i → ops[i]? = some o → (∀ d, dst = some d → d ∉ o.looksAt ops) ∧ (∀ d, dst = some d → o.dst ≠ some d))
    (hQ : ∀ a w, D w → Lq a → wpList P ops Q l (a.put dst u) w) :
    ∀ (f : Nat) (listed : Array Bool) (a : Act) (w : World), D w → (∀ i, J i → listed.getD i true = true) →
     rAny P md ops C n (fun listed' a' => Region.seqB md ops g n listed' = true ∧ Lq a') f listed a → wpAny P md ops Q (f + g) listed (a.put dst u) w
 | 0, listed, a, w, hw, _, h => by
  rw [Nat.zero_add]
  subst hg
  exact wpAny_of_seq l n listed _ w hl h.1 (hQ a w hw h.2)
 | f + 1, listed, a, w, hw, hJ, h => by
  rw [show f + 1 + g = (f + g) + 1 by omega]
  refine ⟨fun h0 => absurd h0 h.1, fun i hi => ?_⟩
  obtain ⟨hin, o, v, ho, hy, hK⟩ := h.2 i hi
  have hiun := (mem_ready.1 hi).1
  have hnJ : ¬ J i := fun hj => by rw [hJ i hj] at hiun; cases hiun
  obtain ⟨h1, h2⟩ := hap i o hin hnJ ho
  have hy' : rYields P ops C o v (a.put dst u) := hy.same (execOp_put o (fun cs b => Region.noSelect_spec hsel i o cs b ho) a dst u h1) (wanted_put o a dst u h1)
  refine zAq ho (hD w hw) hy' fun w' hw' => ?_
  rw [Act.put_comm a u v h2]
  refine zB0 hsel hg hl hD hDe J hap hQ f _ _ w' (hDe _ _ hw hw') (fun k hk => ?_) hK
  by_cases hik : i = k
  ·subst hik; exact absurd hk hnJ
  ·rw [getD_set_ne true hik]; exact hJ k hk
def plainB (md : Region.Mode) (ops : Array Oper) (n : Nat) : Bool :=
 Region.noSelect ops && decide (n < ops.size) && Region.sinkB md ops n && Region.chainB md ops n && orderB md ops n (ops.size - n) (List.range n) (Array.replicate ops.size false)
theorem headInv0 {n : Nat} : HeadInv md ops n (Array.replicate ops.size false) :=
 ⟨by simp, fun j oj _ hl => (by rw [getD_replicate_false] at hl; cases hl), fun t _ ht => getD_in (by simpa using ht) (getD_replicate_false _ _)⟩
theorem wp_region_tail {id : Nat} {Q : Exit → Act → World → Prop} {a : Act} {w : World} {l : List Oper} (n : Nat) (hm : P.follows .mixedOrders = true) (hB : plainB .any l.toArray n = true)
    (hC : ∀ w', Below w.heap.size w w' → C w')
    (h : rWalk P l.toArray C (fun a' => ∀ w', Below w.heap.size w w' → wpList P l.toArray Q (l.drop n) a' w') (l.take n) a) : (Code.region id l.toArray true).wp P Q a w := by
 simp only [plainB, Bool.and_eq_true, decide_eq_true_eq] at hB
 obtain ⟨⟨⟨⟨hsel, hn⟩, hs⟩, hc⟩, ho⟩ := hB
 have hn' : n < l.length := by simpa using hn
 have hmap : (List.range n).map (fun i => l.toArray[i]?) = (l.take n).map some := by
  apply List.ext_getElem?
  intro j
  simp only [List.getElem?_map, List.getElem?_take]
  by_cases hj : j < n
  ·simp [hj, show j < l.length by omega]
  ·simp [hj]
 have H := zBt (md := .any) (g := l.toArray.size - n) hsel (HeadInv .any l.toArray n) (fun listed j inv hj hjn => inv.set hj hjn) (fun listed inv i hi hun => tail_waits hs hc hn inv _ i rfl hi hun)
  (List.range n) (l.take n) _ a hmap headInv0 ho h
 refine wp_region_any hm ?_
 have := zB0 (md := .any) (Q := Q) (l := l.drop n) (dst := none) (u := undef) (D := fun w' => Below w.heap.size w w') hsel (by simp) (fun j => by simp [List.getElem?_drop])
  hC (fun a b ha hb => Ext.trans (a := w) ha hb) (fun _ => False) (fun i o _ _ _ => ⟨fun d hd => (by cases hd), fun d hd => (by cases hd)⟩)
  (fun a' w' hw' hl => hl w' hw') _ _ _ { w with drawn := w.drawn + 1 } ⟨rfl, rfl, rfl, Nat.le_refl _, fun _ _ => rfl⟩ (fun i hi => hi.elim) H
 rw [List.length_range, show n + (l.toArray.size - n) = l.toArray.size by omega] at this
 exact this
end
end Go.Proofs.YtmobnmjjmafibaaGreat
namespace Go.Proofs.YtmobnmjjmafibaaGreat
open Go.RowKit
attribute [local go_sem] rOper rAt rUpon cell_set sg_i64 sg_u64 alloc_cell alloc_frozen
theorem inGrid_any (n : Int) (w : World) :
    Calls Tryz.prog 135 #[.int .i64 n] w fun e w' => e = .returned (.bool (inG n)) ∧ w = w' := by
 go_enter Tryz.func135, Tryz.ntmps135
 go_wp2
 all_goals go_ret
 all_goals exact ⟨zCh (by simp [inG]; omega), rfl⟩
theorem zH7 (a b : Int) (w : World) :
    Calls Tryz.prog 124 #[.int .i64 a, .int .i64 b] w fun e w' => e = .returned (.int .i64 (cmpN a b)) ∧ w = w' := by
 go_enter Tryz.func124, Tryz.ntmps124
 go_wp2
 all_goals go_ret
 ·exact ⟨zAl (by unfold cmpN sgn; rw [if_pos (by omega)]), rfl⟩
 ·exact ⟨zAl (by unfold cmpN sgn; rw [if_neg (by omega), if_pos (by omega)]), rfl⟩
 ·exact ⟨zAl (by unfold cmpN sgn; rw [if_neg (by omega), if_neg (by omega)]), rfl⟩
theorem zA4 (p : Pt) (w : World) :
    Calls Tryz.prog 101 #[.agg #[.int .i64 p.x, .int .i64 p.y]] w fun e w' => e = .returned (.bool (vld p)) ∧ Below w.heap.size w w' := by
 have hv : vld p = (inG p.x && inG p.y) := rfl
 have Hv := Lib.hid hv; clear hv
 go_enter Tryz.func101, Tryz.ntmps101
 go_wp2_with (go_at_call 135; refine (inGrid_any _ _).mono ?_; rintro e w' ⟨rfl, rfl⟩)
 all_goals go_returns
 all_goals exact ⟨zCh (by rw [Hv.out]; simp [*]), by go_grown⟩
def peqI (a b c d : Int) : Bool := decide (a = c) && decide (b = d)
theorem pt_eql (a b c d : Int) (w : World) : (binOp .eql 30 (.agg #[.int .i64 a, .int .i64 b]) (.agg #[.int .i64 c, .int .i64 d])).run Tryz.prog w = .ok (.bool (peqI a b c d)) w := by
 unfold peqI
 by_cases h1 : a = c <;> by_cases h2 : b = d <;> simp [go_sem, h1, h2]
theorem pt_neq (a b c d : Int) (w : World) : (binOp .neq 30 (.agg #[.int .i64 a, .int .i64 b]) (.agg #[.int .i64 c, .int .i64 d])).run Tryz.prog w = .ok (.bool (!peqI a b c d)) w := by
 unfold peqI
 by_cases h1 : a = c <;> by_cases h2 : b = d <;> simp [go_sem, h1, h2]
theorem zBu {a b c d : Int} : peqI a b c d = true ↔ a = c ∧ b = d := by simp [peqI]
end Go.Proofs.YtmobnmjjmafibaaGreat
namespace Go.Proofs.YtmobnmjjmafibaaGreat
open Go.RowKit Go.WideShapes Go.ChangeShapes
theorem Tryz.own : ownKnob Tryz.prog.godebug = none := by kernel_rfl
theorem zA0 {P : Program} {ops : Array Oper} {C : World → Prop} {Q : Act → Prop} {a : Act} {o : Oper} {rest : List Oper} (hg : Region.wanted o (yielded ops a.tmps) = false) (h : rWalk P ops C Q rest (a.put o.dst undef)) : rWalk P ops C Q (o :: rest) a := by
 simp only [rWalk]; rw [hg, if_neg (by simp)]; exact h
theorem toExt {P : Program} {f : FuncId} {args : Array Value} {v : Value} (c : ∀ w : World, Calls P f args w fun e w' => e = .returned v ∧ Below w.heap.size w w') : ∀ w : World, Calls P f args w fun e w' => e = .returned v ∧ Ext w w' := c
section
variable {H : Type} {enc : TypeId × Value → H} {P : Program}
theorem post_of_below {f : Func} {s : ChangeSpec} {apart fresh handsOn again : Bool} {W W' : World} {args : Array Value} {v : Value} {ds gs : List (DataW H)} {before pa pv : List MemPlace}
    (hW : DataW.Whole enc P f.params.toList s.vars apart W args.toList ds gs before)
    (hres : ∀ (b : Nat) (sp : Nat → Bool) (hd : Bool), DataW.TrodAll enc P W' b sp hd f.resultTypes.toList (v.resultList f.resultTypes.size) (s.fn H (ds ++ gs)).results [])
    (hargs : ∀ sp : Nat → Bool, (∀ p ∈ before, sp p.block = true) → DataW.TrodAll enc P W' 0 sp true f.params.toList args.toList (s.fn H (ds ++ gs)).args pa)
    (hvars : ∀ sp : Nat → Bool, (∀ p ∈ before, sp p.block = true) → DataW.TrodVars enc P W' sp s.vars (s.fn H (ds ++ gs)).vars pv)
    (hps : before = pa ++ pv) (hb : Below W.heap.size W W')
    (hok : ∀ (j : Nat) (t : TypeId) (r : Value), f.resultTypes[j]? = some t → (v.resultList f.resultTypes.size)[j]? = some r → Value.okWide P W' .any 0 t r) :
    s.post enc P f apart fresh handsOn again W args v W' := by
 have hlt : ∀ p ∈ before, p.block < W.heap.size := fun p hp => hW.lt p hp
 have hold : ∀ p ∈ before, (fun b => decide (b < W.heap.size)) p.block = true := fun p hp => by simpa using hlt p hp
 refine ⟨ds, gs, before, [], pa, pv, hW, hres _ _ _, hargs _ hold, hvars _ hold, World.keptBut_mono (fun p hp => ⟨hp, ?_⟩) (hb.frame (· ∈ before)), fun _ => ?_⟩
 ·rw [hps, List.mem_append] at hp
  exact Or.inr hp
 ·obtain ⟨_, _, _, _, _, hz, hn⟩ := hW
  refine ⟨hok, _, _, ([] ++ pa) ++ pv, ⟨[] ++ pa, pv, trodAll_append (hargs _ (fun _ _ => rfl)) (hres _ _ _), hvars _ (fun _ _ => rfl), rfl, ?_, ?_⟩, ?_⟩
  ·intro b off hp
   have hin : MemPlace.cell b off ∈ before := by rw [hps]; simpa using hp
   rw [hb.frozen (hlt _ hin)]
   exact hz b off hin
  ·intro ha
   have := hn ha
   rw [hps] at this
   simpa using this
  ·intro p hp _
   rw [hps]
   simpa using hp
end
end Go.Proofs.YtmobnmjjmafibaaGreat
namespace Go.Proofs.YtmobnmjjmafibaaGreat
open Go.RowKit Go.Sort
attribute [local go_sem] rOper rAt rUpon cell_set sg_i64 sg_u64 alloc_cell alloc_frozen
attribute [local irreducible] rWalk
theorem zAm (p q : Pt) (w : World) :
    Calls Tryz.prog 81 #[.agg #[.int .i64 p.x, .int .i64 p.y], .agg #[.int .i64 q.x, .int .i64 q.y]] w fun e w' => e = .returned (.int .i64 (cmpP p q)) ∧ Below w.heap.size w w' := by
 by_cases h : p.x = q.x
 ·have e1 : (p.x != q.x) = false := by simp [h]
  have e2 : cmpP p q = cmpN p.y q.y := by unfold cmpP; rw [if_pos h]
  rw [e2]
  clear e2 h
  go_enter Tryz.func81, Tryz.ntmps81
  go_wp2_with (go_at_call 124; refine (zH7 _ _ _).mono ?_; rintro e w' ⟨rfl, rfl⟩)
  go_returns
  exact ⟨rfl, by go_grown⟩
 ·have e1 : (p.x != q.x) = true := by simp [h]
  have e2 : cmpP p q = cmpN p.x q.x := by unfold cmpP; rw [if_neg h]
  rw [e2]
  clear e2 h
  go_enter Tryz.func81, Tryz.ntmps81
  go_wp2_with (go_at_call 124; refine (zH7 _ _ _).mono ?_; rintro e w' ⟨rfl, rfl⟩)
  go_returns
  exact ⟨rfl, by go_grown⟩
def way (a b : Pt) : Pt := ⟨b.x - a.x, b.y - a.y⟩
def sm (n : Int) : Prop := -16777215 ≤ n ∧ n ≤ 16777215
def smP (p : Pt) : Prop := sm p.x ∧ sm p.y
theorem zEk {a b : Pt} (ha : vld a = true) (hb : vld b = true) : smP (way a b) := by
 rw [zAr] at ha hb; unfold smP sm way; simp only; omega
theorem zJg (a b : Pt) (ha : vld a = true) (hb : vld b = true) (w : World) :
    Calls Tryz.prog 144 #[.agg #[.int .i64 a.x, .int .i64 a.y], .agg #[.int .i64 b.x, .int .i64 b.y]] w fun e w' => e = .returned (.agg #[.int .i64 (way a b).x, .int .i64 (way a b).y]) ∧ Below w.heap.size w w' := by
 rw [zAr] at ha hb
 have x1 : wrap64 (b.x - a.x) = (way a b).x := by rw [w64]; unfold way; simp only; omega
 have y1 : wrap64 (b.y - a.y) = (way a b).y := by rw [w64]; unfold way; simp only; omega
 have X := Lib.hid x1; have Y := Lib.hid y1; clear x1 y1 ha hb
 generalize (way a b).x = u at *
 generalize (way a b).y = v at *
 go_enter Tryz.func144, Tryz.ntmps144
 go_wp2
 refine bodyPost_ret (v := .agg #[.int .i64 u, .int .i64 v]) (by simp [results, Tryz.results144, go_sem, X.out, Y.out]) rfl ⟨rfl, by go_grown⟩
theorem zBa {a b : Int} (ha : sm a) (hb : sm b) : -281474943156225 ≤ a * b ∧ a * b ≤ 281474943156225 := by
 unfold sm at ha hb
 have h1 : a.natAbs ≤ 16777215 := by omega
 have h2 : b.natAbs ≤ 16777215 := by omega
 have h3 := Nat.mul_le_mul h1 h2
 rw [← Int.natAbs_mul] at h3
 generalize a * b = p at *
 omega
theorem zD1 (a : Int) : 0 ≤ a * a := by
 rcases Int.le_total 0 a with h | h
 ·exact Int.mul_nonneg h h
 ·exact Int.mul_nonneg_of_nonpos_of_nonpos h h
def cr (u v : Pt) : Int := u.x * v.y - u.y * v.x
def ht (u : Pt) : Int := u.x * u.x + u.y * u.y
theorem cr_bd {u v : Pt} (hu : smP u) (hv : smP v) : -562949886312450 ≤ cr u v ∧ cr u v ≤ 562949886312450 := by
 have h1 := zBa hu.1 hv.2
 have h2 := zBa hu.2 hv.1
 unfold cr; omega
theorem cross_any (u v : Pt) (hu : smP u) (hv : smP v) (w : World) :
    Calls Tryz.prog 143 #[.agg #[.int .i64 u.x, .int .i64 u.y], .agg #[.int .i64 v.x, .int .i64 v.y]] w fun e w' => e = .returned (.int .i64 (cr u v)) ∧ Below w.heap.size w w' := by
 have h1 := zBa hu.1 hv.2
 have h2 := zBa hu.2 hv.1
 have e : wrap64 (wrap64 (u.x * v.y) - wrap64 (u.y * v.x)) = cr u v := by
  simp only [w64]; unfold cr
  generalize u.x * v.y = p at *
  generalize u.y * v.x = q at *
  omega
 have E := Lib.hid e; clear e h1 h2 hu hv
 go_enter Tryz.func143, Tryz.ntmps143
 go_wp2
 go_ret
 exact ⟨zAl (by simpa using E.out), by go_grown⟩
theorem zCe {P : Program} {f : FuncId} {args : Array Value} {E : Ending} (h : ∀ w, Calls P f args w fun e w' => e = E ∧ w = w') (w : World) : Calls P f args w fun e w' => e = E ∧ Below w.heap.size w w' :=
 (h w).mono fun e w' h => ⟨h.1, by rw [h.2]; exact Below.refl _ _⟩
theorem orient_bad0 (a b c : Pt)  (ha : vld a = false) (w : World) :
    Calls Tryz.prog 118 #[.agg #[.int .i64 a.x, .int .i64 a.y], .agg #[.int .i64 b.x, .int .i64 b.y], .agg #[.int .i64 c.x, .int .i64 c.y]] w fun e w' => e = .returned (.int .i64 0) ∧ Below w.heap.size w w' := by
 have ca := zA4 a
 rw [ha] at ca
 clear ha
 go_enter Tryz.func118, Tryz.ntmps118
 go_wp2_with fail
 refine zA1 fun W1 hW => ?_
 have Ba : Box W1 (w.heap.size) [.int .i64 a.x, .int .i64 a.y] 30 := by rw [hW]; exact ((Box.new rfl).old _).old _
 have Bb : Box W1 (w.heap.size + 1) [.int .i64 b.x, .int .i64 b.y] 30 := by rw [hW]; exact (Box.new (by simp)).old _
 have Bc : Box W1 (w.heap.size + 1 + 1) [.int .i64 c.x, .int .i64 c.y] 30 := by rw [hW]; exact Box.new (by simp)
 have hw : Below w.heap.size w W1 := by rw [hW]; go_grown
 clear hW
 refine (ca _).mono ?_
 rintro e w2 ⟨rfl, hb⟩
 replace Ba := Ba.ee hb
 replace Bb := Bb.ee hb
 replace Bc := Bc.ee hb
 replace hw := upB hw hb
 clear hb
 have F_abc := J3 Ba.f Bb.f Bc.f
 go_wp2
 go_ret
 exact ⟨rfl, hw⟩
theorem orient_bad1 (a b c : Pt) (ha : vld a = true) (hb : vld b = false) (w : World) :
    Calls Tryz.prog 118 #[.agg #[.int .i64 a.x, .int .i64 a.y], .agg #[.int .i64 b.x, .int .i64 b.y], .agg #[.int .i64 c.x, .int .i64 c.y]] w fun e w' => e = .returned (.int .i64 0) ∧ Below w.heap.size w w' := by
 have ca := zA4 a
 rw [ha] at ca
 clear ha
 have cb := zA4 b
 rw [hb] at cb
 clear hb
 go_enter Tryz.func118, Tryz.ntmps118
 go_wp2_with fail
 refine zA1 fun W1 hW => ?_
 have Ba : Box W1 (w.heap.size) [.int .i64 a.x, .int .i64 a.y] 30 := by rw [hW]; exact ((Box.new rfl).old _).old _
 have Bb : Box W1 (w.heap.size + 1) [.int .i64 b.x, .int .i64 b.y] 30 := by rw [hW]; exact (Box.new (by simp)).old _
 have Bc : Box W1 (w.heap.size + 1 + 1) [.int .i64 c.x, .int .i64 c.y] 30 := by rw [hW]; exact Box.new (by simp)
 have hw : Below w.heap.size w W1 := by rw [hW]; go_grown
 clear hW
 refine (ca _).mono ?_
 rintro e w2 ⟨rfl, hb⟩
 replace Ba := Ba.ee hb
 replace Bb := Bb.ee hb
 replace Bc := Bc.ee hb
 replace hw := upB hw hb
 clear hb
 have F_abc := J3 Ba.f Bb.f Bc.f
 go_wp2_with fail
 refine (cb _).mono ?_
 rintro e w3 ⟨rfl, hb⟩
 clear F_abc
 replace Ba := Ba.ee hb
 replace Bb := Bb.ee hb
 replace Bc := Bc.ee hb
 replace hw := upB hw hb
 clear hb
 have F_abc := J3 Ba.f Bb.f Bc.f
 go_wp2
 go_ret
 exact ⟨rfl, hw⟩
theorem orient_bad2 (a b c : Pt) (ha : vld a = true) (hb : vld b = true) (hc : vld c = false) (w : World) :
    Calls Tryz.prog 118 #[.agg #[.int .i64 a.x, .int .i64 a.y], .agg #[.int .i64 b.x, .int .i64 b.y], .agg #[.int .i64 c.x, .int .i64 c.y]] w fun e w' => e = .returned (.int .i64 0) ∧ Below w.heap.size w w' := by
 have ca := zA4 a
 rw [ha] at ca
 clear ha
 have cb := zA4 b
 rw [hb] at cb
 clear hb
 have cc := zA4 c
 rw [hc] at cc
 clear hc
 go_enter Tryz.func118, Tryz.ntmps118
 go_wp2_with fail
 refine zA1 fun W1 hW => ?_
 have Ba : Box W1 (w.heap.size) [.int .i64 a.x, .int .i64 a.y] 30 := by rw [hW]; exact ((Box.new rfl).old _).old _
 have Bb : Box W1 (w.heap.size + 1) [.int .i64 b.x, .int .i64 b.y] 30 := by rw [hW]; exact (Box.new (by simp)).old _
 have Bc : Box W1 (w.heap.size + 1 + 1) [.int .i64 c.x, .int .i64 c.y] 30 := by rw [hW]; exact Box.new (by simp)
 have hw : Below w.heap.size w W1 := by rw [hW]; go_grown
 clear hW
 refine (ca _).mono ?_
 rintro e w2 ⟨rfl, hb⟩
 replace Ba := Ba.ee hb
 replace Bb := Bb.ee hb
 replace Bc := Bc.ee hb
 replace hw := upB hw hb
 clear hb
 have F_abc := J3 Ba.f Bb.f Bc.f
 go_wp2_with fail
 refine (cb _).mono ?_
 rintro e w3 ⟨rfl, hb⟩
 clear F_abc
 replace Ba := Ba.ee hb
 replace Bb := Bb.ee hb
 replace Bc := Bc.ee hb
 replace hw := upB hw hb
 clear hb
 have F_abc := J3 Ba.f Bb.f Bc.f
 go_wp2_with fail
 refine (cc _).mono ?_
 rintro e w4 ⟨rfl, hb⟩
 clear F_abc
 replace Ba := Ba.ee hb
 replace Bb := Bb.ee hb
 replace Bc := Bc.ee hb
 replace hw := upB hw hb
 clear hb
 have F_abc := J3 Ba.f Bb.f Bc.f
 go_wp2
 go_ret
 exact ⟨rfl, hw⟩
theorem orient_ok (a b c : Pt) (ha : vld a = true) (hb : vld b = true) (hc : vld c = true) (w : World) :
    Calls Tryz.prog 118 #[.agg #[.int .i64 a.x, .int .i64 a.y], .agg #[.int .i64 b.x, .int .i64 b.y], .agg #[.int .i64 c.x, .int .i64 c.y]] w fun e w' => e = .returned (.int .i64 (sgn (det a b c))) ∧ Below w.heap.size w w' := by
 have ca := zA4 a
 rw [ha] at ca
 have cb := zA4 b
 rw [hb] at cb
 have cc := zA4 c
 rw [hc] at cc
 have d1 := zJg a b ha hb
 have d2 := zJg a c ha hc
 have d3 := cross_any (way a b) (way a c) (zEk ha hb) (zEk ha hc)
 have d4 := zCe (zH7 (cr (way a b) (way a c)) 0)
 have ed : cmpN (cr (way a b) (way a c)) 0 = sgn (det a b c) := by
  unfold cmpN cr way det; simp only [Int.sub_zero]
 rw [ed] at d4
 clear ha hb hc ed
 generalize way a b = u at *
 generalize way a c = v at *
 go_enter Tryz.func118, Tryz.ntmps118
 go_wp2_with fail
 refine zA1 fun W1 hW => ?_
 have Ba : Box W1 (w.heap.size) [.int .i64 a.x, .int .i64 a.y] 30 := by rw [hW]; exact ((Box.new rfl).old _).old _
 have Bb : Box W1 (w.heap.size + 1) [.int .i64 b.x, .int .i64 b.y] 30 := by rw [hW]; exact (Box.new (by simp)).old _
 have Bc : Box W1 (w.heap.size + 1 + 1) [.int .i64 c.x, .int .i64 c.y] 30 := by rw [hW]; exact Box.new (by simp)
 have hw : Below w.heap.size w W1 := by rw [hW]; go_grown
 clear hW
 refine (ca _).mono ?_
 rintro e w2 ⟨rfl, hb⟩
 replace Ba := Ba.ee hb
 replace Bb := Bb.ee hb
 replace Bc := Bc.ee hb
 replace hw := upB hw hb
 clear hb
 have F_abc := J3 Ba.f Bb.f Bc.f
 go_wp2_with fail
 refine (cb _).mono ?_
 rintro e w3 ⟨rfl, hb⟩
 clear F_abc
 replace Ba := Ba.ee hb
 replace Bb := Bb.ee hb
 replace Bc := Bc.ee hb
 replace hw := upB hw hb
 clear hb
 have F_abc := J3 Ba.f Bb.f Bc.f
 go_wp2_with fail
 refine (cc _).mono ?_
 rintro e w4 ⟨rfl, hb⟩
 clear F_abc
 replace Ba := Ba.ee hb
 replace Bb := Bb.ee hb
 replace Bc := Bc.ee hb
 replace hw := upB hw hb
 clear hb
 have F_abc := J3 Ba.f Bb.f Bc.f
 go_wp2
 refine zA2 fun W9 hW => ?_
 replace hw : Below w.heap.size w W9 := by rw [hW]; exact hw
 replace Ba : Box W9 (w.heap.size) [.int .i64 a.x, .int .i64 a.y] 30 := by rw [hW]; exact Ba
 replace Bb : Box W9 (w.heap.size + 1) [.int .i64 b.x, .int .i64 b.y] 30 := by rw [hW]; exact Bb
 replace Bc : Box W9 (w.heap.size + 1 + 1) [.int .i64 c.x, .int .i64 c.y] 30 := by rw [hW]; exact Bc
 clear hW
 clear F_abc
 have ga := Ba.cells
 have gb := Bb.cells
 have gc := Bc.cells
 refine wp_region_tail 8 (by kernel_rfl) (by kernel_rfl) (C := fun w' => ∃ p : Regrown, w' = grow (redrawn W9 p.d) p.os) rgB ?_
 simp only [tK1, tK0, dP1, dP0]
 repeat (first | (refine zA0 (Eq.refl false) ?_; simp only [Act.put, sT2, sT1, sT0]) | (refine rWalk_step (fun K hK => ?_); go_simp; first | (refine hK _ ?_; clear hK K) | (apply Exists.intro; refine ⟨fun _ => ?_, hK _ ?_⟩; (first | with_reducible exact toExt d1 _ | with_reducible exact toExt d2 _ | with_reducible exact toExt d3 _ | with_reducible exact toExt d4 _); clear hK K)))
 refine rWalk_nil ?_
 intro w5 hb
 clear ga gb gc
 replace Ba := Ba.ee hb
 replace Bb := Bb.ee hb
 replace Bc := Bc.ee hb
 replace hw := upB hw hb
 go_wp2
 go_ret
 exact ⟨rfl, hw⟩
theorem zA8 (a b c : Pt) (w : World) :
    Calls Tryz.prog 118 #[.agg #[.int .i64 a.x, .int .i64 a.y], .agg #[.int .i64 b.x, .int .i64 b.y], .agg #[.int .i64 c.x, .int .i64 c.y]] w fun e w' => e = .returned (.int .i64 (ori a b c)) ∧ Below w.heap.size w w' := by
 cases ha : vld a with
 | false => rw [show ori a b c = 0 by simp [ori, ha]]; exact orient_bad0 a b c ha w
 | true => cases hb : vld b with
  | false => rw [show ori a b c = 0 by simp [ori, hb]]; exact orient_bad1 a b c ha hb w
  | true => cases hc : vld c with
   | false => rw [show ori a b c = 0 by simp [ori, hc]]; exact orient_bad2 a b c ha hb hc w
   | true => rw [show ori a b c = sgn (det a b c) by simp [ori, ha, hb, hc]]; exact orient_ok a b c ha hb hc w
end Go.Proofs.YtmobnmjjmafibaaGreat
namespace Go.Proofs.YtmobnmjjmafibaaGreat
open Go.RowKit Go.Sort
section
variable {P : Program} {ops : Array Oper} {md : Region.Mode} {C : World → Prop}
structure Lay where
 at_ : Nat
 slot : Tmp
 type : TypeId
 cells : List Value
def putD (β : Tmp → Nat) : List Tmp → Act → Act
 | [], a => a
 | d :: l, a => (putD β l a).put (some d) (.pointer (some ⟨β d, 0, none⟩))
theorem zIt {β : Tmp → Nat} {x : Option Tmp} {v : Value} : ∀ {l : List Tmp} {a : Act}, (∀ d, d ∈ l → x ≠ some d) → putD β l (a.put x v) = (putD β l a).put x v
 | [], _, _ => rfl
 | d :: l, a, h => by
  simp only [putD]
  rw [zIt (fun d' h' => h d' (List.mem_cons_of_mem _ h'))]
  exact Act.put_comm _ v _ (fun d' hd' hd => h d List.mem_cons_self (by rw [hd', ← hd]))
theorem zGw {β β' : Tmp → Nat} : ∀ {l : List Tmp} {a : Act}, (∀ d, d ∈ l → β d = β' d) → putD β l a = putD β' l a
 | [], _, _ => rfl
 | d :: l, a, h => by
  simp only [putD]
  rw [zGw (fun d' h' => h d' (List.mem_cons_of_mem _ h')), h d List.mem_cons_self]
theorem putD_perm {β : Tmp → Nat} {l l' : List Tmp} (h : l.Perm l') (a : Act) : putD β l a = putD β l' a := by
 induction h with
 | nil => rfl
 | cons x _ ih => simp only [putD, ih]
 | swap x y l =>
  simp only [putD]
  by_cases e : x = y
  ·subst e; rfl
  ·exact Act.put_comm _ _ _ (fun d hd hd' => e (by cases hd; cases hd'; rfl))
 | trans _ _ ih1 ih2 => exact ih1.trans ih2
theorem zI8 {o : Oper} (hs : ∀ cs b, o.op ≠ .select cs b) {β : Tmp → Nat} : ∀ {l : List Tmp} {a : Act}, (∀ d, d ∈ l → d ∉ o.looksAt ops) → execOp (putD β l a).eval o = execOp a.eval o
 | [], _, _ => rfl
 | d :: l, a, h => by
  simp only [putD]
  rw [execOp_put (ops := ops) o hs _ (some d) _ (fun d' hd' => by cases hd'; exact h d List.mem_cons_self), zI8 hs (fun d' h' => h d' (List.mem_cons_of_mem _ h'))]
theorem zF8 {o : Oper} {β : Tmp → Nat} : ∀ {l : List Tmp} {a : Act}, (∀ d, d ∈ l → d ∉ o.looksAt ops) → Region.wanted o (yielded ops (putD β l a).tmps) = Region.wanted o (yielded ops a.tmps)
 | [], _, _ => rfl
 | d :: l, a, h => by
  simp only [putD]
  rw [wanted_put o _ (some d) _ (fun d' hd' => by cases hd'; exact h d List.mem_cons_self), zF8 (fun d' h' => h d' (List.mem_cons_of_mem _ h'))]
def setAll (K : List Lay) (listed : Array Bool) : Array Bool := K.foldr (fun e m => m.setIfInBounds e.at_ true) listed
theorem zGr (K : List Lay) (listed : Array Bool) (i : Nat) : setAll K (listed.setIfInBounds i true) = (setAll K listed).setIfInBounds i true := by
 induction K with
 | nil => rfl
 | cons e K ih =>
  simp only [setAll, List.foldr_cons] at *
  rw [ih]
  by_cases h : i = e.at_
  ·rw [h]
  ·rw [Array.setIfInBounds_comm _ _ h]
theorem setAll_ne {K : List Lay} {listed : Array Bool} {i : Nat} {d : Bool} (h : ∀ e, e ∈ K → e.at_ ≠ i) : (setAll K listed).getD i d = listed.getD i d := by
 induction K with
 | nil => rfl
 | cons e K ih =>
  have h1 := h e List.mem_cons_self
  have h2 := ih (fun e' h' => h e' (List.mem_cons_of_mem _ h'))
  simp only [setAll, List.foldr_cons] at *
  rw [getD_set_ne d h1]; exact h2
theorem setAll_app (K1 K2 : List Lay) (e : Lay) (listed : Array Bool) : setAll (K1 ++ e :: K2) listed = setAll (K1 ++ K2) (listed.setIfInBounds e.at_ true) := by
 rw [zGr]
 induction K1 with
 | nil => rfl
 | cons x K1 ih =>
  simp only [setAll, List.cons_append, List.foldr_cons] at *
  rw [ih]
  by_cases h : e.at_ = x.at_
  ·rw [h]
  ·rw [Array.setIfInBounds_comm _ _ h]
theorem ready_setAll {K : List Lay} {listed : Array Bool} {i : Nat} (h : i ∈ Region.ready md ops listed) (hne : ∀ e, e ∈ K → e.at_ ≠ i) : i ∈ Region.ready md ops (setAll K listed) := by
 induction K with
 | nil => exact h
 | cons e K ih =>
  have h2 := ih (fun e' h' => hne e' (List.mem_cons_of_mem _ h'))
  simp only [setAll, List.foldr_cons] at *
  exact ready_mono h2 (Ne.symm (hne e List.mem_cons_self))
structure Laid (w0 : World) (J : List Lay) (done : List Tmp) (β : Tmp → Nat) (w : World) : Prop where
 below : Below w0.heap.size w0 w
 box : ∀ e, e ∈ J → e.slot ∈ done → w0.heap.size ≤ β e.slot ∧ Box w (β e.slot) e.cells e.type
 apart : ∀ x, x ∈ done → ∀ y, y ∈ done → x ≠ y → β x ≠ β y
theorem Laid.ext {w0 w w' : World} {J : List Lay} {done : List Tmp} {β : Tmp → Nat} (h : Laid w0 J done β w) (hw : Ext w w') : Laid w0 J done β w' :=
 ⟨Ext.trans (a := w0) h.below hw, fun e he hd => ⟨(h.box e he hd).1, (h.box e he hd).2.ee hw⟩, h.apart⟩
def manyB (ops : Array Oper) (n : Nat) (J : List Lay) : Bool :=
 J.all fun e => decide (e.at_ < n) && (List.range n).all fun i => i == e.at_ || match ops[i]? with
  | some o => !(o.looksAt ops).contains e.slot && o.dst != some e.slot
  | none => true
theorem zGz {n : Nat} {J : List Lay} (h : manyB ops n J = true) : ∀ e, e ∈ J → e.at_ < n ∧ ∀ i o, i < n → i ≠ e.at_ → ops[i]? = some o → e.slot ∉ o.looksAt ops ∧ o.dst ≠ some e.slot := by
 intro e he
 have h1 := List.all_eq_true.1 h e he
 simp only [Bool.and_eq_true, decide_eq_true_eq] at h1
 refine ⟨h1.1, fun i o hi hne ho => ?_⟩
 have h2 := List.all_eq_true.1 h1.2 i (List.mem_range.2 hi)
 simp only [ho, Bool.or_eq_true, beq_iff_eq, hne, false_or, Bool.and_eq_true, Bool.not_eq_true', bne_iff_ne] at h2
 exact ⟨by simpa using h2.1, h2.2⟩
theorem zFw : ∀ {J : List Lay}, (J.map Lay.slot).Nodup → ∀ {x y : Lay}, x ∈ J → y ∈ J → x.slot = y.slot → x = y
 | [], _, _, _, hx, _, _ => by cases hx
 | e :: J, h, x, y, hx, hy, hxy => by
  obtain ⟨h1, h2⟩ := List.nodup_cons.1 h
  rcases List.mem_cons.1 hx with rfl | hx' <;> rcases List.mem_cons.1 hy with rfl | hy'
  ·rfl
  ·exact absurd (List.mem_map.2 ⟨y, hy', hxy.symm⟩) h1
  ·exact absurd (List.mem_map.2 ⟨x, hx', hxy⟩) h1
  ·exact zFw h2 hx' hy' hxy
theorem at_inj : ∀ {J : List Lay}, (J.map Lay.at_).Nodup → ∀ {x y : Lay}, x ∈ J → y ∈ J → x.at_ = y.at_ → x = y
 | [], _, _, _, hx, _, _ => by cases hx
 | e :: J, h, x, y, hx, hy, hxy => by
  obtain ⟨h1, h2⟩ := List.nodup_cons.1 h
  rcases List.mem_cons.1 hx with rfl | hx' <;> rcases List.mem_cons.1 hy with rfl | hy'
  ·rfl
  ·exact absurd (List.mem_map.2 ⟨y, hy', hxy.symm⟩) h1
  ·exact absurd (List.mem_map.2 ⟨x, hx', hxy⟩) h1
  ·exact at_inj h2 hx' hy' hxy
theorem rAny_with_many {n g : Nat} {J : List Lay} {Q : Exit → Act → World → Prop} {Lq : Act → Prop} {l : List Oper} {w0 : World} (hsel : Region.noSelect ops = true)
    (hg : l.length = g) (hl : ∀ k, l[k]? = ops[n + k]?)
    (hJ : ∀ e, e ∈ J → ∃ oj, ops[e.at_]? = some oj ∧ oj.dst = some e.slot ∧ oj.after = #[] ∧ oj.guard = none ∧ ∀ (ρ : Operand → Value) (w : World), (execOp ρ oj).run P w = .ok (.value (.pointer (some ⟨w.heap.size, 0, none⟩))) (w.alloc (.cells e.cells.toArray e.type)))
    (hJs : (J.map Lay.slot).Nodup) (hJa : ∀ e, e ∈ J → ∀ e', e' ∈ J → e.at_ = e'.at_ → e = e') (hB : manyB ops n J = true)
    (hs : Region.sinkB md ops n = true) (hc : Region.chainB md ops n = true) (hn : n < ops.size)
    (hC : ∀ w', Below w0.heap.size w0 w' → C w')
    (hQ : ∀ a w β, Laid w0 J (J.map Lay.slot) β w → Lq a → wpList P ops Q l (putD β (J.map Lay.slot) a) w) :
    ∀ (m f : Nat) (K : List Lay) (done : List Tmp) (β : Tmp → Nat) (listed : Array Bool) (a : Act) (w : World), m = f + K.length → (∀ e, e ∈ K → e ∈ J) → (done ++ K.map Lay.slot).Perm (J.map Lay.slot) →
     (∀ e, e ∈ K → listed.getD e.at_ true = false) → (∀ e, e ∈ J → e.slot ∈ done → listed.getD e.at_ true = true) → (K.map Lay.slot).Nodup →
     HeadInv md ops n listed → Laid w0 J done β w →
     rAny P md ops C n (fun listed' a' => Region.seqB md ops g n listed' = true ∧ Lq a') f (setAll K listed) a → wpAny P md ops Q (m + g) listed (putD β done a) w := by
 have spec := zGz hB
 intro m
 induction m with
 | zero =>
  intro f K done β listed a w hm hKJ hperm hKl hdl hKn inv hw h
  have hf : f = 0 := by omega
  have hK : K = [] := List.length_eq_zero_iff.1 (by omega)
  subst hf hK
  subst hg
  rw [Nat.zero_add]
  simp only [List.map_nil, List.append_nil] at hperm
  refine wpAny_of_seq l n listed _ w hl h.1 ?_
  rw [putD_perm hperm]
  refine hQ a w β ⟨hw.below, fun e he hd => hw.box e he (hperm.mem_iff.2 hd), fun x hx y hy => hw.apart x (hperm.mem_iff.2 hx) y (hperm.mem_iff.2 hy)⟩ h.2
 | succ m ih =>
  intro f K done β listed a w hm hKJ hperm hKl hdl hKn inv hw h
  rw [show m + 1 + g = (m + g) + 1 by omega]
  have hnd : (done ++ K.map Lay.slot).Nodup := hperm.nodup_iff.2 hJs
  -- who may come up now
  have hne : Region.ready md ops listed ≠ [] := by
   cases K with
   | nil =>
    cases f with
    | zero => simp at hm
    | succ f => exact h.1
   | cons e K' =>
    obtain ⟨oj, hoj, _, haft, _⟩ := hJ e (hKJ e List.mem_cons_self)
    intro h0
    have : e.at_ ∈ Region.ready md ops listed := mem_ready.2 ⟨hKl e List.mem_cons_self, oj, hoj, fun x hx => (by rw [haft] at hx; simp at hx)⟩
    rw [h0] at this; cases this
  refine ⟨fun h0 => absurd h0 hne, fun i hi => ?_⟩
  have hiun := (mem_ready.1 hi).1
  by_cases hiK : ∃ e, e ∈ K ∧ e.at_ = i
  ·-- a block is laid
   obtain ⟨e, he, rfl⟩ := hiK
   obtain ⟨K1, K2, rfl⟩ := List.append_of_mem he
   obtain ⟨oj, hoj, hd, haft, hgd, hrun⟩ := hJ e (hKJ e he)
   have hlt := (spec e (hKJ e he)).1
   unfold wpOp
   simp only [hoj]
   have hwant : Region.wanted oj (yielded ops (putD β done a).tmps) = true := by simp [Region.wanted, hgd]
   rw [if_pos hwant]
   refine .inl ?_
   unfold Oper.wp
   rw [hrun, Oper.upon_value, hd]
   have hnotdone : e.slot ∉ done := fun hin => by
    have := (List.nodup_append.1 hnd).2.2 e.slot hin e.slot (by simp)
    exact this rfl
   have e1 : ((putD β done a).put (some e.slot) (.pointer (some ⟨w.heap.size, 0, none⟩))) = putD (fun x => if x = e.slot then w.heap.size else β x) (e.slot :: done) a := by
    simp only [putD, if_pos]
    rw [zGw (β := β) (β' := fun x => if x = e.slot then w.heap.size else β x) (fun d hdn => (if_neg (fun hh : d = e.slot => hnotdone (hh ▸ hdn))).symm)]
   rw [e1]
   rw [setAll_app] at h
   refine ih f (K1 ++ K2) (e.slot :: done) _ _ a _ (by simp at hm ⊢; omega) (fun x hx => hKJ x (by simp at hx ⊢; rcases hx with hx | hx <;> simp [hx])) ?_ ?_ ?_ ?_ (inv.set hi hlt) ?_ h
   ·refine List.Perm.trans ?_ hperm
    simp only [List.map_append, List.map_cons, List.cons_append]
    rw [← List.append_assoc, ← List.append_assoc]
    exact List.perm_middle.symm
   ·intro x hx
    have hxK : x ∈ K1 ++ e :: K2 := by simp at hx ⊢; rcases hx with hx | hx <;> simp [hx]
    have hxe : x.at_ ≠ e.at_ := fun hh => by
     have hxx := hJa x (hKJ x hxK) e (hKJ e he) hh
     subst hxx
     simp only [List.map_append, List.map_cons] at hKn
     have h3 := (List.nodup_append.1 hKn)
     rcases List.mem_append.1 hx with hx | hx
     ·exact h3.2.2 x.slot (List.mem_map.2 ⟨x, hx, rfl⟩) x.slot List.mem_cons_self rfl
     ·exact (List.nodup_cons.1 h3.2.1).1 (List.mem_map.2 ⟨x, hx, rfl⟩)
    rw [getD_set_ne true (Ne.symm hxe)]; exact hKl x hxK
   ·intro x hx hxd
    rcases List.mem_cons.1 hxd with hxs | hxs
    ·have hxx : x = e := by
        have hp : (J.map Lay.slot).Nodup := hJs
        exact zFw hp hx (hKJ e he) hxs
     subst hxx
     have : x.at_ < listed.size := by rw [inv.size]; omega
     simp [this]
    ·have := hdl x hx hxs
     by_cases hxe : x.at_ = e.at_
     ·rw [hxe] at this; rw [this] at hiun; cases hiun
     ·rw [getD_set_ne true (Ne.symm hxe)]; exact this
   ·refine hKn.sublist ?_
    simp only [List.map_append, List.map_cons]
    exact List.Sublist.append_left (List.sublist_cons_self _ _) _
   ·refine ⟨hw.below.alloc hw.below.size _, fun x hx hxd => ?_, fun x hx y hy hxy => ?_⟩
    ·rcases List.mem_cons.1 hxd with hxs | hxs
     ·have hxx : x = e := zFw hJs hx (hKJ e he) hxs
      subst hxx
      simp only [if_pos]
      exact ⟨hw.below.size, Box.new rfl⟩
     ·have hxe : x.slot ≠ e.slot := fun hh => hnotdone (hh ▸ hxs)
      simp only [if_neg hxe]
      exact ⟨(hw.box x hx hxs).1, (hw.box x hx hxs).2.old _⟩
    ·have lt : ∀ z, z ∈ done → β z < w.heap.size := fun z hz => by
        have hzJ : z ∈ J.map Lay.slot := hperm.mem_iff.1 (List.mem_append_left _ hz)
        obtain ⟨ez, hez, rfl⟩ := List.mem_map.1 hzJ
        exact (hw.box ez hez hz).2.lt
     rcases List.mem_cons.1 hx with hx | hx <;> rcases List.mem_cons.1 hy with hy | hy
     ·exact absurd (hx.trans hy.symm) hxy
     ·subst hx; simp only [if_pos, if_neg (fun hh => hxy hh.symm : ¬ y = e.slot)]
      have := lt y hy; omega
     ·subst hy; simp only [if_pos, if_neg hxy]
      have := lt x hx; omega
     ·simp only [if_neg (fun hh : x = e.slot => hnotdone (hh ▸ hx)), if_neg (fun hh : y = e.slot => hnotdone (hh ▸ hy))]
      exact hw.apart x hx y hy hxy
  ·-- another one
   have hiK' : ∀ e, e ∈ K → e.at_ ≠ i := fun e he hh => hiK ⟨e, he, hh⟩
   have hir := ready_setAll (K := K) hi hiK'
   cases f with
   | zero =>
    have h1 := seqB_ready h.1 i hir
    cases K with
    | nil => simp at hm
    | cons e K' =>
     exact absurd hi (tail_waits hs hc hn inv _ e.at_ rfl (spec e (hKJ e List.mem_cons_self)).1 (hKl e List.mem_cons_self) i h1)
   | succ f =>
    obtain ⟨hin, o, v, ho, hy, hK⟩ := h.2 i hir
    have hnoJ : ∀ e, e ∈ J → i ≠ e.at_ := fun e he hh => by
     rcases List.mem_append.1 (hperm.mem_iff.2 (List.mem_map.2 ⟨e, he, rfl⟩)) with hd | hd
     ·have := hdl e he hd; rw [← hh] at this; rw [this] at hiun; cases hiun
     ·obtain ⟨e', he', hs'⟩ := List.mem_map.1 hd
      have := zFw hJs (hKJ e' he') he hs'
      subst this
      exact hiK ⟨e', he', hh.symm⟩
    have hap : ∀ d, d ∈ done → d ∉ o.looksAt ops ∧ o.dst ≠ some d := fun d hd => by
     have hdJ : d ∈ J.map Lay.slot := hperm.mem_iff.1 (List.mem_append_left _ hd)
     obtain ⟨e, he, rfl⟩ := List.mem_map.1 hdJ
     exact (spec e he).2 i o hin (hnoJ e he) ho
    have hy' : rYields P ops C o v (putD β done a) := hy.same (zI8 (fun cs b => Region.noSelect_spec hsel i o cs b ho) (fun d hd => (hap d hd).1)) (zF8 (fun d hd => (hap d hd).1))
    refine zAq ho (hC w hw.below) hy' fun w' hw' => ?_
    rw [← zIt (fun d hd => (hap d hd).2)]
    refine ih f K done β _ _ w' (by omega) hKJ hperm (fun e he => by rw [getD_set_ne true (Ne.symm (hiK' e he))]; exact hKl e he) (fun e he hd => by rw [getD_set_ne true (hnoJ e he)]; exact hdl e he hd) hKn (inv.set hi hin) (hw.ext hw') ?_
    rw [zGr]
    exact hK
def dropIdx (js : List Nat) : Nat → List Oper → List Oper
 | _, [] => []
 | i, o :: r => if js.contains i = true then dropIdx js (i + 1) r else o :: dropIdx js (i + 1) r
theorem dropIdx_map (js : List Nat) (l : List Oper) : ∀ (n i : Nat), n = l.length - i → ((List.range' i n).filter fun k => !js.contains k).map (fun k => l.toArray[k]?) = (dropIdx js i (l.drop i)).map some := by
 intro n
 induction n with
 | zero => intro i h; rw [List.drop_eq_nil_of_le (by omega)]; rfl
 | succ n ih =>
  intro i h
  have hi : i < l.length := by omega
  rw [List.drop_eq_getElem_cons hi, List.range'_succ]
  simp only [dropIdx, List.filter_cons]
  have := ih (i + 1) (by omega)
  cases hc : js.contains i with
  | true => simp only [Bool.not_true, Bool.false_eq_true, if_false, if_true]; exact this
  | false => simp only [Bool.not_false, if_true, Bool.false_eq_true, if_false, List.map_cons, this]; simp [hi]
theorem dropIdx_take (js : List Nat) (l : List Oper) (n : Nat) (hn : n ≤ l.length) : ((List.range n).filter fun k => !js.contains k).map (fun k => l.toArray[k]?) = (dropIdx js 0 (l.take n)).map some := by
 have h := dropIdx_map js (l.take n) n 0 (by simp; omega)
 rw [List.drop_zero] at h
 rw [← h, List.range_eq_range']
 refine List.map_congr_left fun k hk => ?_
 have := (List.mem_filter.1 hk).1
 simp at this
 simp [this]
theorem zBb {id : Nat} {Q : Exit → Act → World → Prop} {a : Act} {w : World} {l : List Oper} (n : Nat) (J : List Lay)
    (hJ : ∀ e, e ∈ J → ∃ oj, l.toArray[e.at_]? = some oj ∧ oj.dst = some e.slot ∧ oj.after = #[] ∧ oj.guard = none ∧ ∀ (ρ : Operand → Value) (w : World), (execOp ρ oj).run P w = .ok (.value (.pointer (some ⟨w.heap.size, 0, none⟩))) (w.alloc (.cells e.cells.toArray e.type)))
    (hm : P.follows .mixedOrders = true) (hJs : (J.map Lay.slot).Nodup) (hJa : (J.map Lay.at_).Nodup)
    (hB : (Region.noSelect l.toArray && decide (n < l.toArray.size) && Region.sinkB .any l.toArray n && Region.chainB .any l.toArray n && manyB l.toArray n J &&
     orderB .any l.toArray n (l.toArray.size - n) ((List.range n).filter fun i => !(J.map Lay.at_).contains i) (setAll J (Array.replicate l.toArray.size false))) = true)
    (hcount : ((List.range n).filter fun i => !(J.map Lay.at_).contains i).length + J.length = n)
    (hC : ∀ w', Below w.heap.size w w' → C w')
    (h : rWalk P l.toArray C (fun a' => ∀ w' β, Laid w J (J.map Lay.slot) β w' → wpList P l.toArray Q (l.drop n) (putD β (J.map Lay.slot) a') w') (dropIdx (J.map Lay.at_) 0 (l.take n)) a) :
    (Code.region id l.toArray true).wp P Q a w := by
 simp only [Bool.and_eq_true, decide_eq_true_eq] at hB
 obtain ⟨⟨⟨⟨⟨hsel, hn⟩, hs⟩, hc⟩, hmB⟩, ho⟩ := hB
 have spec := zGz hmB
 have hJa' : ∀ e, e ∈ J → ∀ e', e' ∈ J → e.at_ = e'.at_ → e = e' := fun e he e' he' heq => at_inj hJa he he' heq
 -- the laying operations may come up in any order from the start
 have inv1 : ∀ listed, HeadInv .any l.toArray n listed → TailWaits .any l.toArray n listed := fun listed inv i hi hun => tail_waits hs hc hn inv _ i rfl hi hun
 have invJ : ∀ K : List Lay, (∀ e, e ∈ K → e ∈ J) → (K.map Lay.at_).Nodup → HeadInv .any l.toArray n (setAll K (Array.replicate l.toArray.size false)) := by
  intro K
  induction K with
  | nil => intro _ _; exact headInv0
  | cons e K ih =>
   intro hK hnd
   have hnd' := List.nodup_cons.1 hnd
   have := ih (fun x hx => hK x (List.mem_cons_of_mem _ hx)) hnd'.2
   obtain ⟨oj, hoj, _, haft, _⟩ := hJ e (hK e List.mem_cons_self)
   have hlt := (spec e (hK e List.mem_cons_self)).1
   refine this.set (mem_ready.2 ⟨?_, oj, hoj, fun x hx => (by rw [haft] at hx; simp at hx)⟩) hlt
   rw [setAll_ne (fun x hx hh => hnd'.1 (List.mem_map.2 ⟨x, hx, hh⟩))]
   exact getD_in (by simp at hn ⊢; omega) (getD_replicate_false _ _)
 have H := zBt (md := .any) (g := l.toArray.size - n) hsel (HeadInv .any l.toArray n) (fun listed j inv hj hjn => inv.set hj hjn) inv1 _ _ _ a (dropIdx_take (J.map Lay.at_) l n (by simp at hn; omega)) (invJ J (fun _ h => h) hJa) ho h
 refine wp_region_any hm ?_
 have := rAny_with_many (md := .any) (Q := Q) (l := l.drop n) (w0 := w) (g := l.toArray.size - n) hsel (by simp) (fun j => by simp [List.getElem?_drop]) hJ hJs hJa' hmB hs hc hn hC
  (fun a' w' β hL hl => hl w' β hL) _ _ J [] (fun _ => 0) (Array.replicate l.toArray.size false) a { w with drawn := w.drawn + 1 } rfl (fun _ h => h) (by simp)
  (fun e he => getD_in (by simp; have := (spec e he).1; simp at hn; omega) (getD_replicate_false _ _)) (fun e _ hd => (by cases hd)) hJs headInv0
  ⟨⟨rfl, rfl, rfl, Nat.le_refl _, fun _ _ => rfl⟩, (fun e _ hd => (by cases hd)), (fun x hx => (by cases hx))⟩ H
 rw [hcount, show n + (l.toArray.size - n) = l.toArray.size by omega] at this
 exact this
end
section
variable {P : Program} {ops : Array Oper} {md : Region.Mode} {C : World → Prop}
def backB (md : Region.Mode) (ops : Array Oper) (n : Nat) : Bool :=
 (List.range n).all fun i => match ops[i]? with
  | some o => o.after.all fun e => !Region.binds md e || decide (e.on < i)
  | none => false
theorem backB_spec {n i : Nat} (h : backB md ops n = true) (hi : i < n) : ∃ o, ops[i]? = some o ∧ ∀ e ∈ o.after, Region.binds md e = true → e.on < i := by
 have h1 := List.all_eq_true.1 h i (List.mem_range.2 hi)
 cases ho : ops[i]? with
 | none => rw [ho] at h1; cases h1
 | some o =>
  rw [ho] at h1
  refine ⟨o, rfl, fun e he hb => ?_⟩
  have h2 := Array.all_eq_true_iff_forall_mem.1 h1 e he
  simpa [hb] using h2
theorem zGp {n : Nat} {listed : Array Bool} (h : backB md ops n = true) (hsz : listed.size = ops.size) (hn : n ≤ ops.size) :
    ∀ (i : Nat), i < n → listed.getD i true = false → ∃ k, k ≤ i ∧ k ∈ Region.ready md ops listed := by
 intro i
 induction i using Nat.strongRecOn with
 | _ i ih =>
  intro hi hun
  obtain ⟨o, ho, hall⟩ := backB_spec h hi
  by_cases hr : ∀ e ∈ o.after, Region.binds md e = true → listed.getD e.on false = true
  ·exact ⟨i, Nat.le_refl _, mem_ready.2 ⟨hun, o, ho, hr⟩⟩
  ·have : ∃ e ∈ o.after, Region.binds md e = true ∧ listed.getD e.on false = false := by
      apply Classical.byContradiction
      intro hno
      refine hr fun e he hb => ?_
      cases hv : listed.getD e.on false with
      | true => rfl
      | false => exact absurd ⟨e, he, hb, hv⟩ hno
   obtain ⟨e, he, hb, hv⟩ := this
   have hlt := hall e he hb
   obtain ⟨k, hk, hkr⟩ := ih e.on hlt (by omega) (getD_in (by omega) hv)
   exact ⟨k, by omega, hkr⟩
theorem zHs {n t : Nat} {u : Value} {L : Array Bool → Act → Prop} (hL : ∀ l a, L l a → a.eval (.tmp t) = u) :
    ∀ (f : Nat) (listed : Array Bool) (a : Act), (∀ i o, i < n → ops[i]? = some o → listed.getD i true = false → o.dst ≠ some t) → rAny P md ops C n L f listed a → a.eval (.tmp t) = u
 | 0, listed, a, _, h => hL _ _ h
 | f + 1, listed, a, hw, h => by
  obtain ⟨hne, hall⟩ := h
  obtain ⟨i, hi⟩ := List.exists_mem_of_ne_nil _ hne
  obtain ⟨hin, o, v, ho, _, hK⟩ := hall i hi
  have h1 := zHs hL f _ _ (fun k ok hk hok hun => by
   by_cases hik : i = k
   ·subst hik
    have : ok = o := Option.some.inj (hok.symm.trans ho)
    subst this
    exact hw i ok hin ho (mem_ready.1 hi).1
   ·rw [getD_set_ne true hik] at hun; exact hw k ok hk hok hun) hK
  rw [Act.eval_put (fun d hd hx => by cases hx; exact hw i o hin ho (mem_ready.1 hi).1 hd)] at h1
  exact h1
def writersB (md : Region.Mode) (ops : Array Oper) (n s t : Nat) : Bool :=
 (List.range n).all fun i => match ops[i]? with
  | some o => o.dst != some t || Region.waitsFor md ops s i
  | none => true
structure Late (P : Program) (md : Region.Mode) (ops : Array Oper) (n j s : Nat) (d t : Tmp) (T : TypeId) (cs us : Array Value) (u : Value) (oj os : Oper) (eff : Nat → World → World) : Prop where
 hsel : Region.noSelect ops = true
 hn : n < ops.size
 hjn : j < n
 hsn : s < n
 hjs : j ≠ s
 hsink : Region.sinkB md ops n = true
 hchain : Region.chainB md ops n = true
 hback : backB md ops n = true
 hoj : ops[j]? = some oj
 hos : ops[s]? = some os
 hd : oj.dst = some d
 hafter : oj.after = #[]
 hguard : oj.guard = none
 hsd : os.dst = none
 hsg : os.guard = none
 hsj : Region.waitsFor md ops s j = true
 hdt : d ≠ t
 hwr : writersB md ops n s t = true
 hrun : ∀ (ρ : Operand → Value) (w : World), (execOp ρ oj).run P w = .ok (.value (.pointer (some ⟨w.heap.size, 0, none⟩))) (w.alloc (.cells cs T))
 hst : ∀ (ρ : Operand → Value) (w : World) (b : Nat), ρ (.tmp d) = .pointer (some ⟨b, 0, none⟩) → ρ (.tmp t) = u → w.heap[b]? = some (.cells cs T) → (execOp ρ os).run P w = .ok .skip (eff b w)
 heff : ∀ (w : World) (b : Nat), w.heap[b]? = some (.cells cs T) → (eff b w).heap[b]? = some (.cells us T) ∧ (∀ B, B ≤ b → Below B w (eff b w))
def quietApartB (ops : Array Oper) (n j s : Nat) (d : Tmp) : Bool :=
 (List.range n).all fun i => i == j || i == s || match ops[i]? with
  | some o => !(o.looksAt ops).contains d && o.dst != some d
  | none => true
theorem zCj {n j s d : Nat} (h : quietApartB ops n j s d = true) : ∀ i o, i < n → ¬ (i = j ∨ i = s) → ops[i]? = some o → (∀ d', some d = some d' → d' ∉ o.looksAt ops) ∧ (∀ d', some d = some d' → o.dst ≠ some d') := by
 intro i o hi hj ho
 have h1 := List.all_eq_true.1 h i (List.mem_range.2 hi)
 have hj1 : i ≠ j := fun e => hj (.inl e)
 have hj2 : i ≠ s := fun e => hj (.inr e)
 simp only [ho, Bool.or_eq_true, beq_iff_eq, hj1, hj2, false_or, Bool.and_eq_true, Bool.not_eq_true', bne_iff_ne] at h1
 refine ⟨fun d' hd => ?_, fun d' hd => ?_⟩
 ·cases hd; simpa using h1.1
 ·cases hd; exact h1.2
variable {n j s g : Nat} {d t : Tmp} {T : TypeId} {cs us : Array Value} {u : Value} {oj os : Oper} {eff : Nat → World → World} {Q : Exit → Act → World → Prop} {Lq : Act → Prop} {l : List Oper} {w0 : World}
theorem late_tail (K : Late P md ops n j s d t T cs us u oj os eff) (hqa : quietApartB ops n j s d = true) (hg : l.length = g) (hl : ∀ k, l[k]? = ops[n + k]?) (hC : ∀ w', Below w0.heap.size w0 w' → C w')
    (hQ : ∀ a w b, Below w0.heap.size w0 w → w0.heap.size ≤ b → b < w.heap.size → w.heap[b]? = some (.cells us T) → Lq a → wpList P ops Q l (a.put (some d) (.pointer (some ⟨b, 0, none⟩))) w)
    (f : Nat) (listed : Array Bool) (a : Act) (w : World) (b : Nat) (hw : Below w0.heap.size w0 w) (hb : w0.heap.size ≤ b) (hbl : b < w.heap.size) (hbx : w.heap[b]? = some (.cells us T))
    (hlj : listed.getD j true = true) (hls : listed.getD s true = true)
    (h : rAny P md ops C n (fun listed' a' => Region.seqB md ops g n listed' = true ∧ Lq a') f listed a) : wpAny P md ops Q (f + g) listed (a.put (some d) (.pointer (some ⟨b, 0, none⟩))) w :=
 zB0 (md := md) (D := fun w' => Below w0.heap.size w0 w' ∧ b < w'.heap.size ∧ w'.heap[b]? = some (.cells us T)) K.hsel hg hl (fun w' h => hC w' h.1)
  (fun x y hx hy => ⟨Below.trans hx.1 (Below.mono hy hx.1.size), Nat.lt_of_lt_of_le hx.2.1 hy.size, (hy.block _ hx.2.1).trans hx.2.2⟩) (fun k => k = j ∨ k = s) (zCj hqa)
  (fun a' w' hw' hl' => hQ a' w' b hw'.1 hb hw'.2.1 hw'.2.2 hl') f listed a w ⟨hw, hbl, hbx⟩ (fun k hk => by rcases hk with rfl | rfl; exact hlj; exact hls) h
theorem eval_put_same (a : Act) (d : Tmp) (v : Value) (h : d < a.tmps.size) : (a.put (some d) v).eval (.tmp d) = v := by
 simp [Act.eval, Act.put, h]
theorem zIs (a : Act) (x : Option Tmp) (v : Value) : (a.put x v).tmps.size = a.tmps.size := by cases x <;> simp [Act.put]
theorem zF9 {o : Oper} (h : o.guard = none) (f : Nat → Option Bool) : Region.wanted o f = true := by simp [Region.wanted, h]
theorem late_one (K : Late P md ops n j s d t T cs us u oj os eff) (hqa : quietApartB ops n j s d = true) (hg : l.length = g) (hl : ∀ k, l[k]? = ops[n + k]?) (hC : ∀ w', Below w0.heap.size w0 w' → C w')
    (hLu : ∀ a, Lq a → a.eval (.tmp t) = u)
    (hQ : ∀ a w b, Below w0.heap.size w0 w → w0.heap.size ≤ b → b < w.heap.size → w.heap[b]? = some (.cells us T) → Lq a → wpList P ops Q l (a.put (some d) (.pointer (some ⟨b, 0, none⟩))) w) :
    ∀ (f : Nat) (listed : Array Bool) (a : Act) (w : World) (b : Nat), d < a.tmps.size → Below w0.heap.size w0 w → w0.heap.size ≤ b → b < w.heap.size → w.heap[b]? = some (.cells cs T) →
     listed.getD j true = true → listed.getD s true = false → HeadInv md ops n listed →
     rAny P md ops C n (fun listed' a' => Region.seqB md ops g n listed' = true ∧ Lq a') f (listed.setIfInBounds s true) a → wpAny P md ops Q (f + g + 1) listed (a.put (some d) (.pointer (some ⟨b, 0, none⟩))) w := by
 have hssz : s < ops.size := Nat.lt_trans K.hsn K.hn
 -- the store, whenever it comes
 have store : ∀ (f : Nat) (listed : Array Bool) (a : Act) (w : World) (b : Nat), d < a.tmps.size → Below w0.heap.size w0 w → w0.heap.size ≤ b → b < w.heap.size → w.heap[b]? = some (.cells cs T) →
     listed.getD j true = true → listed.getD s true = false → HeadInv md ops n listed → s ∈ Region.ready md ops listed →
     rAny P md ops C n (fun listed' a' => Region.seqB md ops g n listed' = true ∧ Lq a') f (listed.setIfInBounds s true) a →
     wpOp P ops Q s (wpAny P md ops Q (f + g) (listed.setIfInBounds s true)) (a.put (some d) (.pointer (some ⟨b, 0, none⟩))) w := by
  intro f listed a w b hd hw hb hbl hbx hlj hls inv hsr h
  have hev : a.eval (.tmp t) = u := by
   refine zHs (fun l' a' hL => hLu a' hL.2) f _ a (fun i o hin ho hun hdst => ?_) h
   have h1 := List.all_eq_true.1 K.hwr i (List.mem_range.2 hin)
   simp only [ho, hdst, bne_self_eq_false, Bool.false_or] at h1
   obtain ⟨o', ho', e, he, hbi, hon⟩ := Region.waitsFor_spec h1
   obtain ⟨_, o'', ho'', hall⟩ := mem_ready.1 hsr
   have : o' = o'' := Option.some.inj (ho'.symm.trans ho'')
   subst this
   have h2 := hall e he hbi
   rw [hon] at h2
   by_cases his : s = i
   ·subst his
    have : o = os := Option.some.inj (ho.symm.trans K.hos)
    subst this
    rw [K.hsd] at hdst; cases hdst
   ·rw [getD_set_ne true his] at hun
    rw [getD_both hun] at h2; cases h2
  unfold wpOp
  simp only [K.hos]
  rw [if_pos (zF9 K.hsg _)]
  refine .inl ?_
  unfold Oper.wp
  have e2 : (a.put (some d) (.pointer (some ⟨b, 0, none⟩))).eval (.tmp t) = u := by
   rw [Act.eval_put (fun d' hd' hx => by cases hd'; cases hx; exact K.hdt rfl)]; exact hev
  rw [K.hst _ w b (eval_put_same a d _ hd) e2 hbx, Oper.upon_skip, K.hsd]
  obtain ⟨hu1, hu2⟩ := K.heff w b hbx
  have hbe := hu2 w0.heap.size hb
  exact late_tail K hqa hg hl hC hQ f _ a _ b (hw.trans hbe) hb (Nat.lt_of_lt_of_le hbl hbe.size) hu1 (by
   by_cases hsj : s = j
   ·exact absurd hsj.symm K.hjs
   ·rw [getD_set_ne true hsj]; exact hlj) (by simp [inv.size, hssz]) h
 have head : ∀ (listed : Array Bool), HeadInv md ops n listed → listed.getD s true = false → ∀ i, i ∈ Region.ready md ops listed → i < n := fun listed inv hls i hi => by
  rcases Nat.lt_or_ge i n with h | h
  ·exact h
  ·exact absurd hi (tail_waits K.hsink K.hchain K.hn inv _ s rfl K.hsn hls i h)
 intro f
 induction f with
 | zero =>
  intro listed a w b hd hw hb hbl hbx hlj hls inv h
  obtain ⟨k, hk, hkr⟩ := zGp K.hback inv.size (Nat.le_of_lt K.hn) s K.hsn hls
  refine ⟨fun h0 => (by rw [h0] at hkr; cases hkr), fun i hi => ?_⟩
  by_cases his : i = s
  ·subst his; exact store 0 listed a w b hd hw hb hbl hbx hlj hls inv hi h
  ·have h1 := seqB_ready h.1 i (ready_mono hi his)
   have := head listed inv hls i hi
   omega
 | succ f ih =>
  intro listed a w b hd hw hb hbl hbx hlj hls inv h
  obtain ⟨k, hk, hkr⟩ := zGp K.hback inv.size (Nat.le_of_lt K.hn) s K.hsn hls
  refine ⟨fun h0 => (by rw [h0] at hkr; cases hkr), fun i hi => ?_⟩
  by_cases his : i = s
  ·subst his; exact store (f + 1) listed a w b hd hw hb hbl hbx hlj hls inv hi h
  ·obtain ⟨hin, o, v, ho, hy, hK⟩ := h.2 i (ready_mono hi his)
   have hij : i ≠ j := fun e => by subst e; rw [(mem_ready.1 hi).1] at hlj; cases hlj
   obtain ⟨p1, p2⟩ := zCj hqa i o hin (by rintro (e | e); exact hij e; exact his e) ho
   have hy' : rYields P ops C o v (a.put (some d) (.pointer (some ⟨b, 0, none⟩))) := hy.same (execOp_put o (fun c x => Region.noSelect_spec K.hsel i o c x ho) a _ _ p1) (wanted_put o a _ _ p1)
   refine zAq ho (hC w hw) hy' fun w' hw' => ?_
   rw [Act.put_comm a _ v p2, show f + 1 + g = f + g + 1 by omega]
   refine ih _ _ w' b (by rw [zIs]; exact hd) (Ext.trans hw hw') hb (Nat.lt_of_lt_of_le hbl hw'.size) ((hw'.block _ hbl).trans hbx) (by rw [getD_set_ne true hij]; exact hlj) (by rw [getD_set_ne true his]; exact hls) (inv.set hi hin) ?_
   rw [Array.setIfInBounds_comm _ _ his]
   exact hK
theorem late_zero (K : Late P md ops n j s d t T cs us u oj os eff) (hqa : quietApartB ops n j s d = true) (hg : l.length = g) (hl : ∀ k, l[k]? = ops[n + k]?) (hC : ∀ w', Below w0.heap.size w0 w' → C w')
    (hLu : ∀ a, Lq a → a.eval (.tmp t) = u)
    (hQ : ∀ a w b, Below w0.heap.size w0 w → w0.heap.size ≤ b → b < w.heap.size → w.heap[b]? = some (.cells us T) → Lq a → wpList P ops Q l (a.put (some d) (.pointer (some ⟨b, 0, none⟩))) w) :
    ∀ (f : Nat) (listed : Array Bool) (a : Act) (w : World), d < a.tmps.size → Below w0.heap.size w0 w → listed.getD j true = false → listed.getD s true = false → HeadInv md ops n listed →
     rAny P md ops C n (fun listed' a' => Region.seqB md ops g n listed' = true ∧ Lq a') f ((listed.setIfInBounds j true).setIfInBounds s true) a → wpAny P md ops Q (f + g + 1 + 1) listed a w := by
 have hjsz : j < ops.size := Nat.lt_trans K.hjn K.hn
 have lay : ∀ (f : Nat) (listed : Array Bool) (a : Act) (w : World), d < a.tmps.size → Below w0.heap.size w0 w → listed.getD j true = false → listed.getD s true = false → HeadInv md ops n listed → j ∈ Region.ready md ops listed →
     rAny P md ops C n (fun listed' a' => Region.seqB md ops g n listed' = true ∧ Lq a') f ((listed.setIfInBounds j true).setIfInBounds s true) a →
     wpOp P ops Q j (wpAny P md ops Q (f + g + 1) (listed.setIfInBounds j true)) a w := by
  intro f listed a w hd hw hlj hls inv hjr h
  unfold wpOp
  simp only [K.hoj]
  rw [if_pos (zF9 K.hguard _)]
  refine .inl ?_
  unfold Oper.wp
  rw [K.hrun, Oper.upon_value, K.hd]
  exact late_one K hqa hg hl hC hLu hQ f _ a _ w.heap.size hd (hw.alloc hw.size _) hw.size (by simp) (heap_new _ _) (by simp [inv.size, hjsz]) (by rw [getD_set_ne true K.hjs]; exact hls) (inv.set hjr K.hjn) h
 have notS : ∀ (listed : Array Bool), listed.getD j true = false → s ∉ Region.ready md ops listed := fun listed hlj hsr => by
  obtain ⟨o', ho', e, he, hbi, hon⟩ := Region.waitsFor_spec K.hsj
  obtain ⟨_, o'', ho'', hall⟩ := mem_ready.1 hsr
  have : o' = o'' := Option.some.inj (ho'.symm.trans ho'')
  subst this
  have h2 := hall e he hbi
  rw [hon, getD_both hlj] at h2; cases h2
 intro f
 induction f with
 | zero =>
  intro listed a w hd hw hlj hls inv h
  have hjr : j ∈ Region.ready md ops listed := mem_ready.2 ⟨hlj, oj, K.hoj, fun e he => (by rw [K.hafter] at he; simp at he)⟩
  refine ⟨fun h0 => (by rw [h0] at hjr; cases hjr), fun i hi => ?_⟩
  by_cases hij : i = j
  ·subst hij; exact lay 0 listed a w hd hw hlj hls inv hi h
  ·have his : i ≠ s := fun e => by subst e; exact notS listed hlj hi
   have h1 := seqB_ready h.1 i (ready_mono (ready_mono hi hij) his)
   exact absurd hi (tail_waits K.hsink K.hchain K.hn inv _ j rfl K.hjn hlj i h1)
 | succ f ih =>
  intro listed a w hd hw hlj hls inv h
  have hjr : j ∈ Region.ready md ops listed := mem_ready.2 ⟨hlj, oj, K.hoj, fun e he => (by rw [K.hafter] at he; simp at he)⟩
  refine ⟨fun h0 => (by rw [h0] at hjr; cases hjr), fun i hi => ?_⟩
  by_cases hij : i = j
  ·subst hij; exact lay (f + 1) listed a w hd hw hlj hls inv hi h
  ·have his : i ≠ s := fun e => by subst e; exact notS listed hlj hi
   obtain ⟨hin, o, v, ho, hy, hK⟩ := h.2 i (ready_mono (ready_mono hi hij) his)
   refine zAq ho (hC w hw) hy fun w' hw' => ?_
   rw [show f + 1 + g + 1 = f + g + 1 + 1 by omega]
   refine ih _ _ w' (by rw [zIs]; exact hd) (Ext.trans hw hw') (by rw [getD_set_ne true hij]; exact hlj) (by rw [getD_set_ne true his]; exact hls) (inv.set hi hin) ?_
   rw [Array.setIfInBounds_comm _ _ hij, Array.setIfInBounds_comm _ _ his]
   exact hK
def phaseB (md : Region.Mode) (ops : Array Oper) (n : Nat) : Bool := (List.range n).all fun i => Region.waitsFor md ops n i
theorem phase_waits {listed : Array Bool} (hp : phaseB md ops n = true) (hc : Region.chainB md ops n = true) (ht : ∀ t, n ≤ t → t < ops.size → listed.getD t true = false) : TailWaits md ops n listed := by
 intro i hi hun t hnt hr
 obtain ⟨_, ot, hot, hall⟩ := mem_ready.1 hr
 have htlt : t < ops.size := (Array.getElem?_eq_some_iff.1 hot).1
 by_cases htn : t = n
 ·subst htn
  obtain ⟨o', ho', e, he, hb, hon⟩ := Region.waitsFor_spec (List.all_eq_true.1 hp i (List.mem_range.2 hi))
  have : o' = ot := Option.some.inj (ho'.symm.trans hot)
  subst this
  have h2 := hall e he hb
  rw [hon, getD_both hun] at h2; cases h2
 ·have h1 := List.all_eq_true.1 hc t (List.mem_range.2 htlt)
  simp only [Bool.or_eq_true, decide_eq_true_eq] at h1
  rcases h1 with h1 | h1
  ·omega
  ·obtain ⟨o', ho', e, he, hb, hon⟩ := Region.waitsFor_spec h1
   have : o' = ot := Option.some.inj (ho'.symm.trans hot)
   subst this
   have h2 := hall e he hb
   rw [hon, getD_both (ht (t - 1) (by omega) (by omega))] at h2; cases h2
def lateB (md : Region.Mode) (ops : Array Oper) (n j s : Nat) (d t : Tmp) : Bool :=
 Region.noSelect ops && decide (n < ops.size) && decide (j < n) && decide (s < n) && decide (j ≠ s) && decide (d ≠ t) && Region.sinkB md ops n && Region.chainB md ops n && phaseB md ops n && backB md ops n && Region.waitsFor md ops s j && writersB md ops n s t && quietApartB ops n j s d &&
 orderB md ops n (ops.size - n) ((List.range n).filter fun i => i != j && i != s) (((Array.replicate ops.size false).setIfInBounds j true).setIfInBounds s true)
end
theorem count_two {n j s : Nat} (hj : j < n) (hs : s < n) (hjs : j ≠ s) : ((List.range n).filter fun i => i != j && i != s).length + 1 + 1 = n := by
 have h1 : ∀ (l : List Nat) (x : Nat), l.Nodup → x ∈ l → (l.filter fun i => i != x).length + 1 = l.length := by
  intro l
  induction l with
  | nil => intro x _ hx; cases hx
  | cons y l ih =>
   intro x hnd hx
   by_cases hxy : y = x
   ·subst hxy
    have hno : y ∉ l := (List.nodup_cons.1 hnd).1
    have : l.filter (fun i => i != y) = l := List.filter_eq_self.2 fun z hz => by
     simp only [bne_iff_ne, ne_eq]; rintro rfl; exact hno hz
    simp [this]
   ·have hx2 : x ∈ l := by
       rcases List.mem_cons.1 hx with h | h
       ·exact absurd h.symm hxy
       ·exact h
    have := ih x (List.nodup_cons.1 hnd).2 hx2
    rw [List.filter_cons_of_pos (by simpa using hxy)]
    simp only [List.length_cons]; omega
 have e : ((List.range n).filter fun i => i != j && i != s) = ((List.range n).filter fun i => i != j).filter fun i => i != s := by
  rw [List.filter_filter]
  congr 1; funext i; exact Bool.and_comm _ _
 rw [e]
 have a1 := h1 (List.range n) j List.nodup_range (List.mem_range.2 hj)
 have a2 := h1 ((List.range n).filter fun i => i != j) s (List.nodup_range.filter _) (List.mem_filter.2 ⟨List.mem_range.2 hs, by simpa using Ne.symm hjs⟩)
 rw [List.length_range] at a1
 omega
theorem range_two (m : Nat) : ((List.range (m + 2)).filter fun i => i != m && i != m + 1) = List.range m := by
 rw [List.range_succ, List.range_succ, List.filter_append, List.filter_append]
 have h1 : (List.range m).filter (fun i => i != m && i != m + 1) = List.range m := List.filter_eq_self.2 fun z hz => by
  have := List.mem_range.1 hz
  simp; omega
 rw [h1]
 simp
section
variable {P : Program} {ops : Array Oper} {md : Region.Mode} {C : World → Prop}
theorem zFz {n g : Nat} {Q : Exit → Act → World → Prop} {L : Array Bool → Act → Prop} {D : World → Prop} (hD : ∀ w, D w → C w) (hDe : ∀ w w', D w → Ext w w' → D w')
    (hL : ∀ listed a w, D w → L listed a → wpAny P md ops Q g listed a w) :
    ∀ (f : Nat) (listed : Array Bool) (a : Act) (w : World), D w → rAny P md ops C n L f listed a → wpAny P md ops Q (f + g) listed a w
 | 0, listed, a, w, hw, h => by rw [Nat.zero_add]; exact hL _ _ _ hw h
 | f + 1, listed, a, w, hw, h => by
  rw [show f + 1 + g = (f + g) + 1 by omega]
  refine ⟨fun h0 => absurd h0 h.1, fun i hi => ?_⟩
  obtain ⟨hin, o, v, ho, hy, hK⟩ := h.2 i hi
  refine zAq ho (hD w hw) hy fun w' hw' => ?_
  exact zFz hD hDe hL f _ _ w' (hDe _ _ hw hw') hK
def orderG (md : Region.Mode) (ops : Array Oper) (n : Nat) (S : Array Bool → Bool) : List Nat → Array Bool → Bool
 | [], listed => S listed
 | k :: is, listed => decide (k < n) && (Region.ready md ops listed).contains k && Region.free md ops listed k && orderG md ops n S is (listed.setIfInBounds k true)
theorem zE0 {n : Nat} {Lq : Act → Prop} {S : Array Bool → Bool} (hsel : Region.noSelect ops = true) (Inv : Array Bool → Prop)
    (hinv : ∀ listed j, Inv listed → j ∈ Region.ready md ops listed → j < n → Inv (listed.setIfInBounds j true)) (htail : ∀ listed, Inv listed → TailWaits md ops n listed)
    (hS : ∀ listed, S listed = true → ∀ j ∈ Region.ready md ops listed, n ≤ j) :
    ∀ (is : List Nat) (l : List Oper) (listed : Array Bool) (a : Act), is.map (fun i => ops[i]?) = l.map some → Inv listed → orderG md ops n S is listed = true → rWalk P ops C Lq l a →
     rAny P md ops C n (fun listed' a' => S listed' = true ∧ Lq a') is.length listed a
 | [], [], listed, a, _, _, hB, h => ⟨hB, h⟩
 | [], _ :: _, _, _, hl, _, _, _ => by cases hl
 | _ :: _, [], _, _, hl, _, _, _ => by cases hl
 | k :: is, o :: l, listed, a, hl, inv, hB, h => by
  simp only [List.map_cons, List.cons.injEq] at hl
  obtain ⟨h0, hl⟩ := hl
  simp only [orderG, Bool.and_eq_true, decide_eq_true_eq] at hB
  obtain ⟨⟨⟨hkn, hr⟩, hf⟩, hB'⟩ := hB
  have hr' : k ∈ Region.ready md ops listed := by simpa using hr
  obtain ⟨v, hy, hK⟩ := rYields.of_walk h
  exact zDh h0 (Region.noSelect_spec hsel) hkn Inv hinv htail (fun listed' a' hL => hS _ hL.1) is.length listed a inv (Region.free_spec h0 hf) hr' hy
   (zE0 hsel Inv hinv htail hS is l _ _ hl (hinv _ _ inv hr' hkn) hB' hK)
theorem zDr {n : Nat} {listed : Array Bool} (h : ((List.range n).all fun i => listed.getD i false) = true) : ∀ j ∈ Region.ready md ops listed, n ≤ j := by
 intro j hj
 rcases Nat.lt_or_ge j n with hl | hl
 ·have h1 := List.all_eq_true.1 h j (List.mem_range.2 hl)
  have h2 := (mem_ready.1 hj).1
  rw [getD_both h2] at h1; cases h1
 ·exact hl
end
end Go.Proofs.YtmobnmjjmafibaaGreat
namespace Go.Proofs.YtmobnmjjmafibaaGreat
open Go.RowKit
attribute [local go_sem] rOper rAt rUpon cell_set sg_i64 sg_u64
theorem zDz (h1 l1 h2 l2 : Int) (k : Ok h1 l1) (q : Ok h2 l2) (w : World) :
    Calls Tryz.prog 138 #[.agg #[.int .i64 h1, .int .u64 l1], .agg #[.int .i64 h2, .int .u64 l2]] w fun e w' =>
     e = .returned (.agg #[.int .i64 (mH (V h1 l1 + V h2 l2)), .int .u64 (mL (V h1 l1 + V h2 l2))]) ∧ Below w.heap.size w w' := by
 obtain ⟨e1, e2⟩ := m_sum k q
 obtain ⟨c1, c2⟩ := lo_lt k.l0 k.l1 q.l0 q.l1
 have e3 : lo l1 l2 = IntKind.u64.wrap (l1 + l2) := by rw [IntKind.wrap_u64]; rfl
 rw [e1, e2, e3]
 rw [e3] at c1 c2
 clear e1 e2 e3
 go_enter Tryz.func138, Tryz.ntmps138
 go_wp2
 all_goals go_returns
 ·rename_i h
  exact ⟨by rw [c1 h], by go_grown⟩
 ·rename_i h
  exact ⟨by rw [c2 h, Int.add_zero], by go_grown⟩
theorem zJj (h l : Int) (k : Ok h l) (w : World) :
    Calls Tryz.prog 139 #[.agg #[.int .i64 h, .int .u64 l]] w fun e w' =>
     e = .returned (.agg #[.int .i64 (mH (-V h l)), .int .u64 (mL (-V h l))]) ∧ Below w.heap.size w w' := by
 have x1 := xor_i64 h k.h0 k.h1
 have x2 := xor_u64 l k.l0 k.l1
 have c := zDz (-1 - h) (18446744073709551615 - l) 0 1 ⟨by have := k.h0; have := k.h1; omega, by have := k.h0; have := k.h1; omega, by have := k.l0; have := k.l1; omega, by have := k.l0; have := k.l1; omega⟩ ⟨by omega, by omega, by omega, by omega⟩
 rw [show V (-1 - h) (18446744073709551615 - l) + V 0 1 = -V h l by unfold V; omega] at c
 go_enter Tryz.func139, Tryz.ntmps139
 go_wp2_with fail
 refine (c _).mono ?_
 rintro e w1 ⟨rfl, hb⟩
 simp only [World.size_alloc] at hb
 obtain ⟨hc, hf, hz, hy, hv⟩ := bcell hb (by simp only [World.size_alloc])
 go_wp2
 refine bodyPost_ret (by simp [results, Tryz.results139, go_sem, hc]; try rfl) rfl ⟨rfl, ?_⟩
 exact ((((Below.refl _ _).alloc (Nat.le_refl _) _).alloc (by simp) _).trans (hb.mono (by omega))).setCell (by simp) _ |>.setCell (by simp) _
end Go.Proofs.YtmobnmjjmafibaaGreat
namespace Go.Proofs.YtmobnmjjmafibaaGreat
open Go.RowKit
attribute [local go_sem] rOper rAt rUpon cell_set sg_i64 sg_u64 alloc_cell alloc_frozen
theorem sgn_mk {n m : Int} (h : m = -1 ∧ n < 0 ∨ m = 0 ∧ n = 0 ∨ m = 1 ∧ 0 < n) : m = sgn n := by
 unfold sgn; split
 ·omega
 ·split <;> omega
theorem r_sign (h l : Int) (k : Ok h l) (w : World) :
    Calls Tryz.prog 179 #[.agg #[.int .i64 h, .int .u64 l]] w fun e w' => e = .returned (.int .i64 (sgn (V h l))) ∧ Below w.heap.size w w' := by
 have K := Lib.hid k
 clear k
 go_enter Tryz.func179, Tryz.ntmps179
 go_wp2
 all_goals go_ret
 all_goals refine ⟨zAl (sgn_mk ?_), by go_grown⟩
 all_goals obtain ⟨a1, a2, a3, a4⟩ := K.out
 all_goals unfold V
 ·rename_i a; omega
 ·rename_i a b c; simp at c; omega
 ·rename_i a b c; simp at c; omega
 ·omega
theorem mm_two {a b c n : Int} (h : a + b + c = n) : mH (V (mH (a + b)) (mL (a + b)) + c) = mH n ∧ mL (V (mH (a + b)) (mL (a + b)) + c) = mL n := by
 obtain ⟨k, hk⟩ := V_m (a + b)
 exact m_cong k (by omega)
theorem mm_neg {a b c n : Int} (h : a + b + c = n) : mH (-V (mH (V (mH (a + b)) (mL (a + b)) + c)) (mL (V (mH (a + b)) (mL (a + b)) + c))) = mH (-n) ∧ mL (-V (mH (V (mH (a + b)) (mL (a + b)) + c)) (mL (V (mH (a + b)) (mL (a + b)) + c))) = mL (-n) := by
 obtain ⟨k, hk⟩ := V_m (a + b)
 obtain ⟨j, hj⟩ := V_m (V (mH (a + b)) (mL (a + b)) + c)
 exact m_cong (-j - k) (by omega)
theorem r_mul (a b : Int) (a0 : -9223372036854775808 ≤ a) (a1 : a ≤ 9223372036854775807) (b0 : -9223372036854775808 ≤ b) (b1 : b ≤ 9223372036854775807) (w : World) :
    Calls Tryz.prog 107 #[.int .i64 a, .int .i64 b] w fun e w' =>
     e = .returned (.agg #[.int .i64 (cH (a * b)), .int .u64 (cL (a * b))]) ∧ Below w.heap.size w w' := by
 obtain ⟨m1, m2⟩ := m_c (fits_mul a b a0 a1 b0 b1)
 rcases Int.lt_or_le a 0 with ha | ha <;> rcases Int.lt_or_le b 0 with hb | hb
 ·rw [← m1, ← m2]
  obtain ⟨X, hX⟩ : ∃ X, IntKind.u64.wrap (-IntKind.u64.wrap a) = X := ⟨_, rfl⟩
  have eX : X = -a := by rw [← hX, IntKind.wrap_u64, IntKind.wrap_u64]; omega
  obtain ⟨Y, hY⟩ : ∃ Y, IntKind.u64.wrap (-IntKind.u64.wrap b) = Y := ⟨_, rfl⟩
  have eY : Y = -b := by rw [← hY, IntKind.wrap_u64, IntKind.wrap_u64]; omega
  have x0 : 0 ≤ X := by omega
  have x1 : X ≤ 9223372036854775808 := by omega
  have y0 : 0 ≤ Y := by omega
  have y1 : Y ≤ 9223372036854775808 := by omega
  have hx : bits .and .u64 X 4294967295 = X % 4294967296 := and_low32 X x0 (by omega)
  have hy : bits .and .u64 Y 4294967295 = Y % 4294967296 := and_low32 Y y0 (by omega)
  have HH := Lib.hid (halves X Y x0 x1 y0 y1)
  have HE : X * Y = a * b := by rw [eX, eY]; exact Int.neg_mul_neg a b
  have HE' := Lib.hid HE; clear HE
  have EX := Lib.hid eX; have EY := Lib.hid eY; clear eX eY m1 m2
  go_enter Tryz.func107, Tryz.ntmps107
  go_wp2_with fail
  refine zA1 fun W hW => ?_
  have B0 : Box W w.heap.size [.int .i64 0, .int .u64 0] 132 := by rw [hW]; exact (Box.new rfl).old _
  obtain ⟨d0, d1, B1⟩ : ∃ d0 d1, Box W (w.heap.size + 1) [d0, d1] 132 := ⟨_, _, by rw [hW]; exact Box.new (by simp)⟩
  have hw : Below w.heap.size w W := by rw [hW]; go_grown
  clear hW
  refine (zDz _ _ _ _ (ok_w _ _) (ok_w _ _) _).mono ?_
  rintro e w1 ⟨rfl, hb1⟩
  replace B0 := B0.ee hb1
  replace B1 := B1.ee hb1
  replace hw := upB hw hb1
  obtain ⟨x0', y0', z0', v0'⟩ := B0.f
  obtain ⟨x1', y1', z1', v1'⟩ := B1.f
  clear hb1
  go_wp2_with fail
  refine zA1 fun W2 hW => ?_
  replace B0 : Box W2 w.heap.size [.int .i64 0, .int .u64 0] 132 := by rw [hW]; exact (B0.set_ne _ _ (by simp)).set_ne _ _ (by simp)
  obtain ⟨d2, d3, B1⟩ : ∃ d0 d1, Box W2 (w.heap.size + 1) [d0, d1] 132 := ⟨_, _, by rw [hW]; exact (B1.set 0 _).set 1 _⟩
  replace hw : Below w.heap.size w W2 := by have hl := hw.size; rw [hW]; go_grown
  clear hW x0' y0' z0' v0' x1' y1' z1' v1'
  refine (zDz _ _ _ _ (ok_m _) (ok_w _ _) _).mono ?_
  rintro e w2 ⟨rfl, hb1⟩
  replace B0 := B0.ee hb1
  replace B1 := B1.ee hb1
  replace hw := upB hw hb1
  obtain ⟨x0', y0', z0', v0'⟩ := B0.f
  obtain ⟨x1', y1', z1', v1'⟩ := B1.f
  clear hb1
  go_wp2_with fail
  have hl := hw.size
  refine bodyPost_ret (by simp [results, Tryz.results107, go_sem, x0']; try rfl) rfl ⟨?_, by go_grown⟩
  obtain ⟨q1, q2⟩ := mm_two HH.out
  rw [q1, q2, HE'.out]
 ·rw [← m1, ← m2]
  obtain ⟨X, hX⟩ : ∃ X, IntKind.u64.wrap (-IntKind.u64.wrap a) = X := ⟨_, rfl⟩
  have eX : X = -a := by rw [← hX, IntKind.wrap_u64, IntKind.wrap_u64]; omega
  obtain ⟨Y, eY⟩ : ∃ Y, Y = b := ⟨_, rfl⟩
  rw [← eY]
  rw [← eY] at hb b0 b1
  have db : decide (Y < 0) = false := decide_eq_false (by omega)
  have x0 : 0 ≤ X := by omega
  have x1 : X ≤ 9223372036854775808 := by omega
  have y0 : 0 ≤ Y := by omega
  have y1 : Y ≤ 9223372036854775808 := by omega
  have hx : bits .and .u64 X 4294967295 = X % 4294967296 := and_low32 X x0 (by omega)
  have hy : bits .and .u64 Y 4294967295 = Y % 4294967296 := and_low32 Y y0 (by omega)
  have HH := Lib.hid (halves X Y x0 x1 y0 y1)
  have HE : -(X * Y) = a * Y := by rw [eX, Int.neg_mul, Int.neg_neg]
  have HE' := Lib.hid HE; clear HE
  have EX := Lib.hid eX; have EY := Lib.hid eY; clear eX eY m1 m2
  go_enter Tryz.func107, Tryz.ntmps107
  go_wp2_with fail
  refine zA1 fun W hW => ?_
  have B0 : Box W w.heap.size [.int .i64 0, .int .u64 0] 132 := by rw [hW]; exact (Box.new rfl).old _
  obtain ⟨d0, d1, B1⟩ : ∃ d0 d1, Box W (w.heap.size + 1) [d0, d1] 132 := ⟨_, _, by rw [hW]; exact Box.new (by simp)⟩
  have hw : Below w.heap.size w W := by rw [hW]; go_grown
  clear hW
  refine (zDz _ _ _ _ (ok_w _ _) (ok_w _ _) _).mono ?_
  rintro e w1 ⟨rfl, hb1⟩
  replace B0 := B0.ee hb1
  replace B1 := B1.ee hb1
  replace hw := upB hw hb1
  obtain ⟨x0', y0', z0', v0'⟩ := B0.f
  obtain ⟨x1', y1', z1', v1'⟩ := B1.f
  clear hb1
  go_wp2_with fail
  refine zA1 fun W2 hW => ?_
  replace B0 : Box W2 w.heap.size [.int .i64 0, .int .u64 0] 132 := by rw [hW]; exact (B0.set_ne _ _ (by simp)).set_ne _ _ (by simp)
  obtain ⟨d2, d3, B1⟩ : ∃ d0 d1, Box W2 (w.heap.size + 1) [d0, d1] 132 := ⟨_, _, by rw [hW]; exact (B1.set 0 _).set 1 _⟩
  replace hw : Below w.heap.size w W2 := by have hl := hw.size; rw [hW]; go_grown
  clear hW x0' y0' z0' v0' x1' y1' z1' v1'
  refine (zDz _ _ _ _ (ok_m _) (ok_w _ _) _).mono ?_
  rintro e w2 ⟨rfl, hb1⟩
  replace B0 := B0.ee hb1
  replace B1 := B1.ee hb1
  replace hw := upB hw hb1
  obtain ⟨x0', y0', z0', v0'⟩ := B0.f
  obtain ⟨x1', y1', z1', v1'⟩ := B1.f
  clear hb1
  go_wp2_with fail
  refine zA1 fun W3 hW => ?_
  replace B0 : Box W3 w.heap.size [.int .i64 0, .int .u64 0] 132 := by rw [hW]; exact (B0.set_ne _ _ (by simp)).set_ne _ _ (by simp)
  replace hw : Below w.heap.size w W3 := by have hl := hw.size; rw [hW]; go_grown
  clear hW x0' y0' z0' v0' x1' y1' z1' v1'
  refine (zJj _ _ (ok_m _) _).mono ?_
  rintro e w3 ⟨rfl, hb1⟩
  replace B0 := B0.ee hb1
  replace hw := upB hw hb1
  obtain ⟨x0', y0', z0', v0'⟩ := B0.f
  clear hb1
  go_wp2
  have hl := hw.size
  refine bodyPost_ret (by simp [results, Tryz.results107, go_sem, x0']; try rfl) rfl ⟨?_, by go_grown⟩
  obtain ⟨q1, q2⟩ := mm_neg HH.out
  rw [q1, q2, HE'.out]
 ·rw [← m1, ← m2]
  obtain ⟨X, eX⟩ : ∃ X, X = a := ⟨_, rfl⟩
  rw [← eX]
  rw [← eX] at ha a0 a1
  have da : decide (X < 0) = false := decide_eq_false (by omega)
  obtain ⟨Y, hY⟩ : ∃ Y, IntKind.u64.wrap (-IntKind.u64.wrap b) = Y := ⟨_, rfl⟩
  have eY : Y = -b := by rw [← hY, IntKind.wrap_u64, IntKind.wrap_u64]; omega
  have x0 : 0 ≤ X := by omega
  have x1 : X ≤ 9223372036854775808 := by omega
  have y0 : 0 ≤ Y := by omega
  have y1 : Y ≤ 9223372036854775808 := by omega
  have hx : bits .and .u64 X 4294967295 = X % 4294967296 := and_low32 X x0 (by omega)
  have hy : bits .and .u64 Y 4294967295 = Y % 4294967296 := and_low32 Y y0 (by omega)
  have HH := Lib.hid (halves X Y x0 x1 y0 y1)
  have HE : -(X * Y) = X * b := by rw [eY, Int.mul_neg, Int.neg_neg]
  have HE' := Lib.hid HE; clear HE
  have EX := Lib.hid eX; have EY := Lib.hid eY; clear eX eY m1 m2
  go_enter Tryz.func107, Tryz.ntmps107
  go_wp2_with fail
  refine zA1 fun W hW => ?_
  have B0 : Box W w.heap.size [.int .i64 0, .int .u64 0] 132 := by rw [hW]; exact (Box.new rfl).old _
  obtain ⟨d0, d1, B1⟩ : ∃ d0 d1, Box W (w.heap.size + 1) [d0, d1] 132 := ⟨_, _, by rw [hW]; exact Box.new (by simp)⟩
  have hw : Below w.heap.size w W := by rw [hW]; go_grown
  clear hW
  refine (zDz _ _ _ _ (ok_w _ _) (ok_w _ _) _).mono ?_
  rintro e w1 ⟨rfl, hb1⟩
  replace B0 := B0.ee hb1
  replace B1 := B1.ee hb1
  replace hw := upB hw hb1
  obtain ⟨x0', y0', z0', v0'⟩ := B0.f
  obtain ⟨x1', y1', z1', v1'⟩ := B1.f
  clear hb1
  go_wp2_with fail
  refine zA1 fun W2 hW => ?_
  replace B0 : Box W2 w.heap.size [.int .i64 0, .int .u64 0] 132 := by rw [hW]; exact (B0.set_ne _ _ (by simp)).set_ne _ _ (by simp)
  obtain ⟨d2, d3, B1⟩ : ∃ d0 d1, Box W2 (w.heap.size + 1) [d0, d1] 132 := ⟨_, _, by rw [hW]; exact (B1.set 0 _).set 1 _⟩
  replace hw : Below w.heap.size w W2 := by have hl := hw.size; rw [hW]; go_grown
  clear hW x0' y0' z0' v0' x1' y1' z1' v1'
  refine (zDz _ _ _ _ (ok_m _) (ok_w _ _) _).mono ?_
  rintro e w2 ⟨rfl, hb1⟩
  replace B0 := B0.ee hb1
  replace B1 := B1.ee hb1
  replace hw := upB hw hb1
  obtain ⟨x0', y0', z0', v0'⟩ := B0.f
  obtain ⟨x1', y1', z1', v1'⟩ := B1.f
  clear hb1
  go_wp2_with fail
  refine zA1 fun W3 hW => ?_
  replace B0 : Box W3 w.heap.size [.int .i64 0, .int .u64 0] 132 := by rw [hW]; exact (B0.set_ne _ _ (by simp)).set_ne _ _ (by simp)
  replace hw : Below w.heap.size w W3 := by have hl := hw.size; rw [hW]; go_grown
  clear hW x0' y0' z0' v0' x1' y1' z1' v1'
  refine (zJj _ _ (ok_m _) _).mono ?_
  rintro e w3 ⟨rfl, hb1⟩
  replace B0 := B0.ee hb1
  replace hw := upB hw hb1
  obtain ⟨x0', y0', z0', v0'⟩ := B0.f
  clear hb1
  go_wp2
  have hl := hw.size
  refine bodyPost_ret (by simp [results, Tryz.results107, go_sem, x0']; try rfl) rfl ⟨?_, by go_grown⟩
  obtain ⟨q1, q2⟩ := mm_neg HH.out
  rw [q1, q2, HE'.out]
 ·rw [← m1, ← m2]
  obtain ⟨X, eX⟩ : ∃ X, X = a := ⟨_, rfl⟩
  rw [← eX]
  rw [← eX] at ha a0 a1
  have da : decide (X < 0) = false := decide_eq_false (by omega)
  obtain ⟨Y, eY⟩ : ∃ Y, Y = b := ⟨_, rfl⟩
  rw [← eY]
  rw [← eY] at hb b0 b1
  have db : decide (Y < 0) = false := decide_eq_false (by omega)
  have x0 : 0 ≤ X := by omega
  have x1 : X ≤ 9223372036854775808 := by omega
  have y0 : 0 ≤ Y := by omega
  have y1 : Y ≤ 9223372036854775808 := by omega
  have hx : bits .and .u64 X 4294967295 = X % 4294967296 := and_low32 X x0 (by omega)
  have hy : bits .and .u64 Y 4294967295 = Y % 4294967296 := and_low32 Y y0 (by omega)
  have HH := Lib.hid (halves X Y x0 x1 y0 y1)
  have HE : X * Y = X * Y := rfl
  have HE' := Lib.hid HE; clear HE
  have EX := Lib.hid eX; have EY := Lib.hid eY; clear eX eY m1 m2
  go_enter Tryz.func107, Tryz.ntmps107
  go_wp2_with fail
  refine zA1 fun W hW => ?_
  have B0 : Box W w.heap.size [.int .i64 0, .int .u64 0] 132 := by rw [hW]; exact (Box.new rfl).old _
  obtain ⟨d0, d1, B1⟩ : ∃ d0 d1, Box W (w.heap.size + 1) [d0, d1] 132 := ⟨_, _, by rw [hW]; exact Box.new (by simp)⟩
  have hw : Below w.heap.size w W := by rw [hW]; go_grown
  clear hW
  refine (zDz _ _ _ _ (ok_w _ _) (ok_w _ _) _).mono ?_
  rintro e w1 ⟨rfl, hb1⟩
  replace B0 := B0.ee hb1
  replace B1 := B1.ee hb1
  replace hw := upB hw hb1
  obtain ⟨x0', y0', z0', v0'⟩ := B0.f
  obtain ⟨x1', y1', z1', v1'⟩ := B1.f
  clear hb1
  go_wp2_with fail
  refine zA1 fun W2 hW => ?_
  replace B0 : Box W2 w.heap.size [.int .i64 0, .int .u64 0] 132 := by rw [hW]; exact (B0.set_ne _ _ (by simp)).set_ne _ _ (by simp)
  obtain ⟨d2, d3, B1⟩ : ∃ d0 d1, Box W2 (w.heap.size + 1) [d0, d1] 132 := ⟨_, _, by rw [hW]; exact (B1.set 0 _).set 1 _⟩
  replace hw : Below w.heap.size w W2 := by have hl := hw.size; rw [hW]; go_grown
  clear hW x0' y0' z0' v0' x1' y1' z1' v1'
  refine (zDz _ _ _ _ (ok_m _) (ok_w _ _) _).mono ?_
  rintro e w2 ⟨rfl, hb1⟩
  replace B0 := B0.ee hb1
  replace B1 := B1.ee hb1
  replace hw := upB hw hb1
  obtain ⟨x0', y0', z0', v0'⟩ := B0.f
  obtain ⟨x1', y1', z1', v1'⟩ := B1.f
  clear hb1
  go_wp2_with fail
  have hl := hw.size
  refine bodyPost_ret (by simp [results, Tryz.results107, go_sem, x0']; try rfl) rfl ⟨?_, by go_grown⟩
  obtain ⟨q1, q2⟩ := mm_two HH.out
  rw [q1, q2]
end Go.Proofs.YtmobnmjjmafibaaGreat
namespace Go.Proofs.YtmobnmjjmafibaaGreat
open Go.RowKit Go.Sort
attribute [local go_sem] rOper rAt rUpon cell_set sg_i64 sg_u64 alloc_cell alloc_frozen
attribute [local go_sem 10000] pt_eql pt_neq
attribute [local irreducible] rWalk
def lft (a b c d : Pt) : Int := ht (way d a) * cr (way d b) (way d c) + ht (way d b) * cr (way d c) (way d a) + ht (way d c) * cr (way d a) (way d b)
theorem zFt {p q : Int} (hp : 0 ≤ p ∧ p ≤ 562949886312450) (hq : -562949886312450 ≤ q ∧ q ≤ 562949886312450) : -316912574500061154317695502500 ≤ p * q ∧ p * q ≤ 316912574500061154317695502500 := by
 have h1 : p.natAbs ≤ 562949886312450 := by omega
 have h2 : q.natAbs ≤ 562949886312450 := by omega
 have h3 := Nat.mul_le_mul h1 h2
 rw [← Int.natAbs_mul] at h3
 generalize p * q = r at *
 omega
def lsr (p m : Pt) : Pt := if cmpP p m < 0 then p else m
def min4 (a b c d : Pt) : Pt := lsr d (lsr c (lsr b a))
def tie (a b c d m : Pt) (o : Int) : Int := if peqI m.x m.y d.x d.y = true then o else if peqI m.x m.y a.x a.y = true then -ori d b c else if peqI m.x m.y b.x b.y = true then -ori a d c else -ori a b d
def circ (a b c d : Pt) : Int :=
 if ori a b c = 0 then 0 else if vld d = false then 0 else if peqI d.x d.y a.x a.y = true then 0 else if peqI d.x d.y b.x b.y = true then 0 else if peqI d.x d.y c.x c.y = true then 0
 else if ¬ sgn (lft a b c d) = 0 then sgn (lft a b c d) else tie a b c d (min4 a b c d) (ori a b c)
theorem sgn_bd (n : Int) : -1 ≤ sgn n ∧ sgn n ≤ 1 := by unfold sgn; split <;> (try split) <;> omega
theorem zBz (a b c : Pt) : -1 ≤ ori a b c ∧ ori a b c ≤ 1 := by unfold ori; split; exact sgn_bd _; omega
theorem zCc {a b c : Pt} (h : ¬ ori a b c = 0) : vld a = true ∧ vld b = true ∧ vld c = true := by
 unfold ori at h; split at h; assumption; exact absurd rfl h
def lo2 (p q : Pt) : Pt := if cmpP q p < 0 then q else p
def hi2 (p q : Pt) : Pt := if cmpP q p < 0 then p else q
def mil (a b c d : Pt) : Int := if cmpP (lo2 a b) (hi2 c d) < 0 then (if cmpP (lo2 c d) (hi2 a b) < 0 then 3 else 0) else 0
theorem mil_000 (a b c d : Pt) (g1 : decide (cmpP b a < 0) = false) (g2 : decide (cmpP d c < 0) = false) (g3 : decide (cmpP a d < 0) = false) (w : World) :
    Calls Tryz.prog 119 #[.agg #[.int .i64 a.x, .int .i64 a.y], .agg #[.int .i64 b.x, .int .i64 b.y], .agg #[.int .i64 c.x, .int .i64 c.y], .agg #[.int .i64 d.x, .int .i64 d.y]] w fun e w' => e = .returned (.int .i64 0) ∧ Below w.heap.size w w' := by
 have k1 := zAm b a
 have k2 := zAm d c
 have k3 := zAm a d
 generalize cmpP b a = x0 at *
 generalize cmpP d c = x1 at *
 generalize cmpP a d = x2 at *
 go_enter Tryz.func119, Tryz.ntmps119
 go_wp2_with fail
 refine zA1 fun W1 hW => ?_
 have Ba : Box W1 (w.heap.size) [.int .i64 a.x, .int .i64 a.y] 30 := by rw [hW]; exact (((Box.new rfl).old _).old _).old _
 have Bb : Box W1 (w.heap.size + 1) [.int .i64 b.x, .int .i64 b.y] 30 := by rw [hW]; exact ((Box.new (by simp)).old _).old _
 have Bc : Box W1 (w.heap.size + 1 + 1) [.int .i64 c.x, .int .i64 c.y] 30 := by rw [hW]; exact (Box.new (by simp)).old _
 have Bd : Box W1 (w.heap.size + 1 + 1 + 1) [.int .i64 d.x, .int .i64 d.y] 30 := by rw [hW]; exact Box.new (by simp)
 have hw : Below w.heap.size w W1 := by rw [hW]; go_grown
 clear hW
 refine (k1 _).mono ?_
 rintro e w2 ⟨rfl, hb⟩
 replace Ba := Ba.ee hb
 replace Bb := Bb.ee hb
 replace Bc := Bc.ee hb
 replace Bd := Bd.ee hb
 replace hw := upB hw hb
 clear hb
 have F_abcd := J4 Ba.f Bb.f Bc.f Bd.f
 go_wp2_with fail
 refine (k2 _).mono ?_
 rintro e w3 ⟨rfl, hb⟩
 clear F_abcd
 replace Ba := Ba.ee hb
 replace Bb := Bb.ee hb
 replace Bc := Bc.ee hb
 replace Bd := Bd.ee hb
 replace hw := upB hw hb
 clear hb
 have F_abcd := J4 Ba.f Bb.f Bc.f Bd.f
 go_wp2_with fail
 refine (k3 _).mono ?_
 rintro e w4 ⟨rfl, hb⟩
 clear F_abcd
 replace Ba := Ba.ee hb
 replace Bb := Bb.ee hb
 replace Bc := Bc.ee hb
 replace Bd := Bd.ee hb
 replace hw := upB hw hb
 clear hb
 go_wp2
 go_ret
 exact ⟨rfl, hw⟩
theorem mil_001 (a b c d : Pt) (g1 : decide (cmpP b a < 0) = false) (g2 : decide (cmpP d c < 0) = false) (g3 : decide (cmpP a d < 0) = true) (g4 : decide (cmpP c b < 0) = false) (w : World) :
    Calls Tryz.prog 119 #[.agg #[.int .i64 a.x, .int .i64 a.y], .agg #[.int .i64 b.x, .int .i64 b.y], .agg #[.int .i64 c.x, .int .i64 c.y], .agg #[.int .i64 d.x, .int .i64 d.y]] w fun e w' => e = .returned (.int .i64 0) ∧ Below w.heap.size w w' := by
 have k1 := zAm b a
 have k2 := zAm d c
 have k3 := zAm a d
 have k4 := zAm c b
 generalize cmpP b a = x0 at *
 generalize cmpP d c = x1 at *
 generalize cmpP a d = x2 at *
 generalize cmpP c b = x3 at *
 go_enter Tryz.func119, Tryz.ntmps119
 go_wp2_with fail
 refine zA1 fun W1 hW => ?_
 have Ba : Box W1 (w.heap.size) [.int .i64 a.x, .int .i64 a.y] 30 := by rw [hW]; exact (((Box.new rfl).old _).old _).old _
 have Bb : Box W1 (w.heap.size + 1) [.int .i64 b.x, .int .i64 b.y] 30 := by rw [hW]; exact ((Box.new (by simp)).old _).old _
 have Bc : Box W1 (w.heap.size + 1 + 1) [.int .i64 c.x, .int .i64 c.y] 30 := by rw [hW]; exact (Box.new (by simp)).old _
 have Bd : Box W1 (w.heap.size + 1 + 1 + 1) [.int .i64 d.x, .int .i64 d.y] 30 := by rw [hW]; exact Box.new (by simp)
 have hw : Below w.heap.size w W1 := by rw [hW]; go_grown
 clear hW
 refine (k1 _).mono ?_
 rintro e w2 ⟨rfl, hb⟩
 replace Ba := Ba.ee hb
 replace Bb := Bb.ee hb
 replace Bc := Bc.ee hb
 replace Bd := Bd.ee hb
 replace hw := upB hw hb
 clear hb
 have F_abcd := J4 Ba.f Bb.f Bc.f Bd.f
 go_wp2_with fail
 refine (k2 _).mono ?_
 rintro e w3 ⟨rfl, hb⟩
 clear F_abcd
 replace Ba := Ba.ee hb
 replace Bb := Bb.ee hb
 replace Bc := Bc.ee hb
 replace Bd := Bd.ee hb
 replace hw := upB hw hb
 clear hb
 have F_abcd := J4 Ba.f Bb.f Bc.f Bd.f
 go_wp2_with fail
 refine (k3 _).mono ?_
 rintro e w4 ⟨rfl, hb⟩
 clear F_abcd
 replace Ba := Ba.ee hb
 replace Bb := Bb.ee hb
 replace Bc := Bc.ee hb
 replace Bd := Bd.ee hb
 replace hw := upB hw hb
 clear hb
 have F_abcd := J4 Ba.f Bb.f Bc.f Bd.f
 go_wp2_with fail
 refine (k4 _).mono ?_
 rintro e w5 ⟨rfl, hb⟩
 clear F_abcd
 replace Ba := Ba.ee hb
 replace Bb := Bb.ee hb
 replace Bc := Bc.ee hb
 replace Bd := Bd.ee hb
 replace hw := upB hw hb
 clear hb
 go_wp2
 go_ret
 exact ⟨rfl, hw⟩
theorem mil_002 (a b c d : Pt) (g1 : decide (cmpP b a < 0) = false) (g2 : decide (cmpP d c < 0) = false) (g3 : decide (cmpP a d < 0) = true) (g4 : decide (cmpP c b < 0) = true) (w : World) :
    Calls Tryz.prog 119 #[.agg #[.int .i64 a.x, .int .i64 a.y], .agg #[.int .i64 b.x, .int .i64 b.y], .agg #[.int .i64 c.x, .int .i64 c.y], .agg #[.int .i64 d.x, .int .i64 d.y]] w fun e w' => e = .returned (.int .i64 3) ∧ Below w.heap.size w w' := by
 have k1 := zAm b a
 have k2 := zAm d c
 have k3 := zAm a d
 have k4 := zAm c b
 generalize cmpP b a = x0 at *
 generalize cmpP d c = x1 at *
 generalize cmpP a d = x2 at *
 generalize cmpP c b = x3 at *
 go_enter Tryz.func119, Tryz.ntmps119
 go_wp2_with fail
 refine zA1 fun W1 hW => ?_
 have Ba : Box W1 (w.heap.size) [.int .i64 a.x, .int .i64 a.y] 30 := by rw [hW]; exact (((Box.new rfl).old _).old _).old _
 have Bb : Box W1 (w.heap.size + 1) [.int .i64 b.x, .int .i64 b.y] 30 := by rw [hW]; exact ((Box.new (by simp)).old _).old _
 have Bc : Box W1 (w.heap.size + 1 + 1) [.int .i64 c.x, .int .i64 c.y] 30 := by rw [hW]; exact (Box.new (by simp)).old _
 have Bd : Box W1 (w.heap.size + 1 + 1 + 1) [.int .i64 d.x, .int .i64 d.y] 30 := by rw [hW]; exact Box.new (by simp)
 have hw : Below w.heap.size w W1 := by rw [hW]; go_grown
 clear hW
 refine (k1 _).mono ?_
 rintro e w2 ⟨rfl, hb⟩
 replace Ba := Ba.ee hb
 replace Bb := Bb.ee hb
 replace Bc := Bc.ee hb
 replace Bd := Bd.ee hb
 replace hw := upB hw hb
 clear hb
 have F_abcd := J4 Ba.f Bb.f Bc.f Bd.f
 go_wp2_with fail
 refine (k2 _).mono ?_
 rintro e w3 ⟨rfl, hb⟩
 clear F_abcd
 replace Ba := Ba.ee hb
 replace Bb := Bb.ee hb
 replace Bc := Bc.ee hb
 replace Bd := Bd.ee hb
 replace hw := upB hw hb
 clear hb
 have F_abcd := J4 Ba.f Bb.f Bc.f Bd.f
 go_wp2_with fail
 refine (k3 _).mono ?_
 rintro e w4 ⟨rfl, hb⟩
 clear F_abcd
 replace Ba := Ba.ee hb
 replace Bb := Bb.ee hb
 replace Bc := Bc.ee hb
 replace Bd := Bd.ee hb
 replace hw := upB hw hb
 clear hb
 have F_abcd := J4 Ba.f Bb.f Bc.f Bd.f
 go_wp2_with fail
 refine (k4 _).mono ?_
 rintro e w5 ⟨rfl, hb⟩
 clear F_abcd
 replace Ba := Ba.ee hb
 replace Bb := Bb.ee hb
 replace Bc := Bc.ee hb
 replace Bd := Bd.ee hb
 replace hw := upB hw hb
 clear hb
 go_wp2
 go_ret
 exact ⟨rfl, hw⟩
theorem mil_010 (a b c d : Pt) (g1 : decide (cmpP b a < 0) = false) (g2 : decide (cmpP d c < 0) = true) (g3 : decide (cmpP a c < 0) = false) (w : World) :
    Calls Tryz.prog 119 #[.agg #[.int .i64 a.x, .int .i64 a.y], .agg #[.int .i64 b.x, .int .i64 b.y], .agg #[.int .i64 c.x, .int .i64 c.y], .agg #[.int .i64 d.x, .int .i64 d.y]] w fun e w' => e = .returned (.int .i64 0) ∧ Below w.heap.size w w' := by
 have k1 := zAm b a
 have k2 := zAm d c
 have k3 := zAm a c
 generalize cmpP b a = x0 at *
 generalize cmpP d c = x1 at *
 generalize cmpP a c = x2 at *
 go_enter Tryz.func119, Tryz.ntmps119
 go_wp2_with fail
 refine zA1 fun W1 hW => ?_
 have Ba : Box W1 (w.heap.size) [.int .i64 a.x, .int .i64 a.y] 30 := by rw [hW]; exact (((Box.new rfl).old _).old _).old _
 have Bb : Box W1 (w.heap.size + 1) [.int .i64 b.x, .int .i64 b.y] 30 := by rw [hW]; exact ((Box.new (by simp)).old _).old _
 have Bc : Box W1 (w.heap.size + 1 + 1) [.int .i64 c.x, .int .i64 c.y] 30 := by rw [hW]; exact (Box.new (by simp)).old _
 have Bd : Box W1 (w.heap.size + 1 + 1 + 1) [.int .i64 d.x, .int .i64 d.y] 30 := by rw [hW]; exact Box.new (by simp)
 have hw : Below w.heap.size w W1 := by rw [hW]; go_grown
 clear hW
 refine (k1 _).mono ?_
 rintro e w2 ⟨rfl, hb⟩
 replace Ba := Ba.ee hb
 replace Bb := Bb.ee hb
 replace Bc := Bc.ee hb
 replace Bd := Bd.ee hb
 replace hw := upB hw hb
 clear hb
 have F_abcd := J4 Ba.f Bb.f Bc.f Bd.f
 go_wp2_with fail
 refine (k2 _).mono ?_
 rintro e w3 ⟨rfl, hb⟩
 clear F_abcd
 replace Ba := Ba.ee hb
 replace Bb := Bb.ee hb
 replace Bc := Bc.ee hb
 replace Bd := Bd.ee hb
 replace hw := upB hw hb
 clear hb
 have F_abcd := J4 Ba.f Bb.f Bc.f Bd.f
 go_wp2_with fail
 refine zA1 fun W4 hW => ?_
 have Ca : Box W4 (w.heap.size) [.int .i64 a.x, .int .i64 a.y] 30 := by rw [hW]; exact ((((Ba.set_ne ⟨w.heap.size + 1 + 1, 0, none⟩ (.int .i64 d.x) (by show (w.heap.size + 1 + 1 : Nat) ≠ _; omega)).set_ne ⟨w.heap.size + 1 + 1, 1, none⟩ (.int .i64 d.y) (by show (w.heap.size + 1 + 1 : Nat) ≠ _; omega)).set_ne ⟨w.heap.size + 1 + 1 + 1, 0, none⟩ (.int .i64 c.x) (by show (w.heap.size + 1 + 1 + 1 : Nat) ≠ _; omega)).set_ne ⟨w.heap.size + 1 + 1 + 1, 1, none⟩ (.int .i64 c.y) (by show (w.heap.size + 1 + 1 + 1 : Nat) ≠ _; omega))
 have Cb : Box W4 (w.heap.size + 1) [.int .i64 b.x, .int .i64 b.y] 30 := by rw [hW]; exact ((((Bb.set_ne ⟨w.heap.size + 1 + 1, 0, none⟩ (.int .i64 d.x) (by show (w.heap.size + 1 + 1 : Nat) ≠ _; omega)).set_ne ⟨w.heap.size + 1 + 1, 1, none⟩ (.int .i64 d.y) (by show (w.heap.size + 1 + 1 : Nat) ≠ _; omega)).set_ne ⟨w.heap.size + 1 + 1 + 1, 0, none⟩ (.int .i64 c.x) (by show (w.heap.size + 1 + 1 + 1 : Nat) ≠ _; omega)).set_ne ⟨w.heap.size + 1 + 1 + 1, 1, none⟩ (.int .i64 c.y) (by show (w.heap.size + 1 + 1 + 1 : Nat) ≠ _; omega))
 have Cc : Box W4 (w.heap.size + 1 + 1) [.int .i64 d.x, .int .i64 d.y] 30 := by rw [hW]; exact ((((Bc.set 0 (.int .i64 d.x)).set 1 (.int .i64 d.y)).set_ne ⟨w.heap.size + 1 + 1 + 1, 0, none⟩ (.int .i64 c.x) (by show (w.heap.size + 1 + 1 + 1 : Nat) ≠ _; omega)).set_ne ⟨w.heap.size + 1 + 1 + 1, 1, none⟩ (.int .i64 c.y) (by show (w.heap.size + 1 + 1 + 1 : Nat) ≠ _; omega))
 have Cd : Box W4 (w.heap.size + 1 + 1 + 1) [.int .i64 c.x, .int .i64 c.y] 30 := by rw [hW]; exact ((((Bd.set_ne ⟨w.heap.size + 1 + 1, 0, none⟩ (.int .i64 d.x) (by show (w.heap.size + 1 + 1 : Nat) ≠ _; omega)).set_ne ⟨w.heap.size + 1 + 1, 1, none⟩ (.int .i64 d.y) (by show (w.heap.size + 1 + 1 : Nat) ≠ _; omega)).set 0 (.int .i64 c.x)).set 1 (.int .i64 c.y))
 replace hw : Below w.heap.size w W4 := by have hl := hw.size; rw [hW]; go_grown
 clear F_abcd
 clear hW Ba Bb Bc Bd
 have Ba := Ca
 have Bb := Cb
 have Bc := Cc
 have Bd := Cd
 clear Ca Cb Cc Cd
 refine (k3 _).mono ?_
 rintro e w5 ⟨rfl, hb⟩
 replace Ba := Ba.ee hb
 replace Bb := Bb.ee hb
 replace Bc := Bc.ee hb
 replace Bd := Bd.ee hb
 replace hw := upB hw hb
 clear hb
 go_wp2
 go_ret
 exact ⟨rfl, hw⟩
theorem mil_011 (a b c d : Pt) (g1 : decide (cmpP b a < 0) = false) (g2 : decide (cmpP d c < 0) = true) (g3 : decide (cmpP a c < 0) = true) (g4 : decide (cmpP d b < 0) = false) (w : World) :
    Calls Tryz.prog 119 #[.agg #[.int .i64 a.x, .int .i64 a.y], .agg #[.int .i64 b.x, .int .i64 b.y], .agg #[.int .i64 c.x, .int .i64 c.y], .agg #[.int .i64 d.x, .int .i64 d.y]] w fun e w' => e = .returned (.int .i64 0) ∧ Below w.heap.size w w' := by
 have k1 := zAm b a
 have k2 := zAm d c
 have k3 := zAm a c
 have k4 := zAm d b
 generalize cmpP b a = x0 at *
 generalize cmpP d c = x1 at *
 generalize cmpP a c = x2 at *
 generalize cmpP d b = x3 at *
 go_enter Tryz.func119, Tryz.ntmps119
 go_wp2_with fail
 refine zA1 fun W1 hW => ?_
 have Ba : Box W1 (w.heap.size) [.int .i64 a.x, .int .i64 a.y] 30 := by rw [hW]; exact (((Box.new rfl).old _).old _).old _
 have Bb : Box W1 (w.heap.size + 1) [.int .i64 b.x, .int .i64 b.y] 30 := by rw [hW]; exact ((Box.new (by simp)).old _).old _
 have Bc : Box W1 (w.heap.size + 1 + 1) [.int .i64 c.x, .int .i64 c.y] 30 := by rw [hW]; exact (Box.new (by simp)).old _
 have Bd : Box W1 (w.heap.size + 1 + 1 + 1) [.int .i64 d.x, .int .i64 d.y] 30 := by rw [hW]; exact Box.new (by simp)
 have hw : Below w.heap.size w W1 := by rw [hW]; go_grown
 clear hW
 refine (k1 _).mono ?_
 rintro e w2 ⟨rfl, hb⟩
 replace Ba := Ba.ee hb
 replace Bb := Bb.ee hb
 replace Bc := Bc.ee hb
 replace Bd := Bd.ee hb
 replace hw := upB hw hb
 clear hb
 have F_abcd := J4 Ba.f Bb.f Bc.f Bd.f
 go_wp2_with fail
 refine (k2 _).mono ?_
 rintro e w3 ⟨rfl, hb⟩
 clear F_abcd
 replace Ba := Ba.ee hb
 replace Bb := Bb.ee hb
 replace Bc := Bc.ee hb
 replace Bd := Bd.ee hb
 replace hw := upB hw hb
 clear hb
 have F_abcd := J4 Ba.f Bb.f Bc.f Bd.f
 go_wp2_with fail
 refine zA1 fun W4 hW => ?_
 have Ca : Box W4 (w.heap.size) [.int .i64 a.x, .int .i64 a.y] 30 := by rw [hW]; exact ((((Ba.set_ne ⟨w.heap.size + 1 + 1, 0, none⟩ (.int .i64 d.x) (by show (w.heap.size + 1 + 1 : Nat) ≠ _; omega)).set_ne ⟨w.heap.size + 1 + 1, 1, none⟩ (.int .i64 d.y) (by show (w.heap.size + 1 + 1 : Nat) ≠ _; omega)).set_ne ⟨w.heap.size + 1 + 1 + 1, 0, none⟩ (.int .i64 c.x) (by show (w.heap.size + 1 + 1 + 1 : Nat) ≠ _; omega)).set_ne ⟨w.heap.size + 1 + 1 + 1, 1, none⟩ (.int .i64 c.y) (by show (w.heap.size + 1 + 1 + 1 : Nat) ≠ _; omega))
 have Cb : Box W4 (w.heap.size + 1) [.int .i64 b.x, .int .i64 b.y] 30 := by rw [hW]; exact ((((Bb.set_ne ⟨w.heap.size + 1 + 1, 0, none⟩ (.int .i64 d.x) (by show (w.heap.size + 1 + 1 : Nat) ≠ _; omega)).set_ne ⟨w.heap.size + 1 + 1, 1, none⟩ (.int .i64 d.y) (by show (w.heap.size + 1 + 1 : Nat) ≠ _; omega)).set_ne ⟨w.heap.size + 1 + 1 + 1, 0, none⟩ (.int .i64 c.x) (by show (w.heap.size + 1 + 1 + 1 : Nat) ≠ _; omega)).set_ne ⟨w.heap.size + 1 + 1 + 1, 1, none⟩ (.int .i64 c.y) (by show (w.heap.size + 1 + 1 + 1 : Nat) ≠ _; omega))
 have Cc : Box W4 (w.heap.size + 1 + 1) [.int .i64 d.x, .int .i64 d.y] 30 := by rw [hW]; exact ((((Bc.set 0 (.int .i64 d.x)).set 1 (.int .i64 d.y)).set_ne ⟨w.heap.size + 1 + 1 + 1, 0, none⟩ (.int .i64 c.x) (by show (w.heap.size + 1 + 1 + 1 : Nat) ≠ _; omega)).set_ne ⟨w.heap.size + 1 + 1 + 1, 1, none⟩ (.int .i64 c.y) (by show (w.heap.size + 1 + 1 + 1 : Nat) ≠ _; omega))
 have Cd : Box W4 (w.heap.size + 1 + 1 + 1) [.int .i64 c.x, .int .i64 c.y] 30 := by rw [hW]; exact ((((Bd.set_ne ⟨w.heap.size + 1 + 1, 0, none⟩ (.int .i64 d.x) (by show (w.heap.size + 1 + 1 : Nat) ≠ _; omega)).set_ne ⟨w.heap.size + 1 + 1, 1, none⟩ (.int .i64 d.y) (by show (w.heap.size + 1 + 1 : Nat) ≠ _; omega)).set 0 (.int .i64 c.x)).set 1 (.int .i64 c.y))
 replace hw : Below w.heap.size w W4 := by have hl := hw.size; rw [hW]; go_grown
 clear F_abcd
 clear hW Ba Bb Bc Bd
 have Ba := Ca
 have Bb := Cb
 have Bc := Cc
 have Bd := Cd
 clear Ca Cb Cc Cd
 refine (k3 _).mono ?_
 rintro e w5 ⟨rfl, hb⟩
 replace Ba := Ba.ee hb
 replace Bb := Bb.ee hb
 replace Bc := Bc.ee hb
 replace Bd := Bd.ee hb
 replace hw := upB hw hb
 clear hb
 have F_abcd := J4 Ba.f Bb.f Bc.f Bd.f
 go_wp2_with fail
 refine (k4 _).mono ?_
 rintro e w6 ⟨rfl, hb⟩
 clear F_abcd
 replace Ba := Ba.ee hb
 replace Bb := Bb.ee hb
 replace Bc := Bc.ee hb
 replace Bd := Bd.ee hb
 replace hw := upB hw hb
 clear hb
 go_wp2
 go_ret
 exact ⟨rfl, hw⟩
theorem mil_012 (a b c d : Pt) (g1 : decide (cmpP b a < 0) = false) (g2 : decide (cmpP d c < 0) = true) (g3 : decide (cmpP a c < 0) = true) (g4 : decide (cmpP d b < 0) = true) (w : World) :
    Calls Tryz.prog 119 #[.agg #[.int .i64 a.x, .int .i64 a.y], .agg #[.int .i64 b.x, .int .i64 b.y], .agg #[.int .i64 c.x, .int .i64 c.y], .agg #[.int .i64 d.x, .int .i64 d.y]] w fun e w' => e = .returned (.int .i64 3) ∧ Below w.heap.size w w' := by
 have k1 := zAm b a
 have k2 := zAm d c
 have k3 := zAm a c
 have k4 := zAm d b
 generalize cmpP b a = x0 at *
 generalize cmpP d c = x1 at *
 generalize cmpP a c = x2 at *
 generalize cmpP d b = x3 at *
 go_enter Tryz.func119, Tryz.ntmps119
 go_wp2_with fail
 refine zA1 fun W1 hW => ?_
 have Ba : Box W1 (w.heap.size) [.int .i64 a.x, .int .i64 a.y] 30 := by rw [hW]; exact (((Box.new rfl).old _).old _).old _
 have Bb : Box W1 (w.heap.size + 1) [.int .i64 b.x, .int .i64 b.y] 30 := by rw [hW]; exact ((Box.new (by simp)).old _).old _
 have Bc : Box W1 (w.heap.size + 1 + 1) [.int .i64 c.x, .int .i64 c.y] 30 := by rw [hW]; exact (Box.new (by simp)).old _
 have Bd : Box W1 (w.heap.size + 1 + 1 + 1) [.int .i64 d.x, .int .i64 d.y] 30 := by rw [hW]; exact Box.new (by simp)
 have hw : Below w.heap.size w W1 := by rw [hW]; go_grown
 clear hW
 refine (k1 _).mono ?_
 rintro e w2 ⟨rfl, hb⟩
 replace Ba := Ba.ee hb
 replace Bb := Bb.ee hb
 replace Bc := Bc.ee hb
 replace Bd := Bd.ee hb
 replace hw := upB hw hb
 clear hb
 have F_abcd := J4 Ba.f Bb.f Bc.f Bd.f
 go_wp2_with fail
 refine (k2 _).mono ?_
 rintro e w3 ⟨rfl, hb⟩
 clear F_abcd
 replace Ba := Ba.ee hb
 replace Bb := Bb.ee hb
 replace Bc := Bc.ee hb
 replace Bd := Bd.ee hb
 replace hw := upB hw hb
 clear hb
 have F_abcd := J4 Ba.f Bb.f Bc.f Bd.f
 go_wp2_with fail
 refine zA1 fun W4 hW => ?_
 have Ca : Box W4 (w.heap.size) [.int .i64 a.x, .int .i64 a.y] 30 := by rw [hW]; exact ((((Ba.set_ne ⟨w.heap.size + 1 + 1, 0, none⟩ (.int .i64 d.x) (by show (w.heap.size + 1 + 1 : Nat) ≠ _; omega)).set_ne ⟨w.heap.size + 1 + 1, 1, none⟩ (.int .i64 d.y) (by show (w.heap.size + 1 + 1 : Nat) ≠ _; omega)).set_ne ⟨w.heap.size + 1 + 1 + 1, 0, none⟩ (.int .i64 c.x) (by show (w.heap.size + 1 + 1 + 1 : Nat) ≠ _; omega)).set_ne ⟨w.heap.size + 1 + 1 + 1, 1, none⟩ (.int .i64 c.y) (by show (w.heap.size + 1 + 1 + 1 : Nat) ≠ _; omega))
 have Cb : Box W4 (w.heap.size + 1) [.int .i64 b.x, .int .i64 b.y] 30 := by rw [hW]; exact ((((Bb.set_ne ⟨w.heap.size + 1 + 1, 0, none⟩ (.int .i64 d.x) (by show (w.heap.size + 1 + 1 : Nat) ≠ _; omega)).set_ne ⟨w.heap.size + 1 + 1, 1, none⟩ (.int .i64 d.y) (by show (w.heap.size + 1 + 1 : Nat) ≠ _; omega)).set_ne ⟨w.heap.size + 1 + 1 + 1, 0, none⟩ (.int .i64 c.x) (by show (w.heap.size + 1 + 1 + 1 : Nat) ≠ _; omega)).set_ne ⟨w.heap.size + 1 + 1 + 1, 1, none⟩ (.int .i64 c.y) (by show (w.heap.size + 1 + 1 + 1 : Nat) ≠ _; omega))
 have Cc : Box W4 (w.heap.size + 1 + 1) [.int .i64 d.x, .int .i64 d.y] 30 := by rw [hW]; exact ((((Bc.set 0 (.int .i64 d.x)).set 1 (.int .i64 d.y)).set_ne ⟨w.heap.size + 1 + 1 + 1, 0, none⟩ (.int .i64 c.x) (by show (w.heap.size + 1 + 1 + 1 : Nat) ≠ _; omega)).set_ne ⟨w.heap.size + 1 + 1 + 1, 1, none⟩ (.int .i64 c.y) (by show (w.heap.size + 1 + 1 + 1 : Nat) ≠ _; omega))
 have Cd : Box W4 (w.heap.size + 1 + 1 + 1) [.int .i64 c.x, .int .i64 c.y] 30 := by rw [hW]; exact ((((Bd.set_ne ⟨w.heap.size + 1 + 1, 0, none⟩ (.int .i64 d.x) (by show (w.heap.size + 1 + 1 : Nat) ≠ _; omega)).set_ne ⟨w.heap.size + 1 + 1, 1, none⟩ (.int .i64 d.y) (by show (w.heap.size + 1 + 1 : Nat) ≠ _; omega)).set 0 (.int .i64 c.x)).set 1 (.int .i64 c.y))
 replace hw : Below w.heap.size w W4 := by have hl := hw.size; rw [hW]; go_grown
 clear F_abcd
 clear hW Ba Bb Bc Bd
 have Ba := Ca
 have Bb := Cb
 have Bc := Cc
 have Bd := Cd
 clear Ca Cb Cc Cd
 refine (k3 _).mono ?_
 rintro e w5 ⟨rfl, hb⟩
 replace Ba := Ba.ee hb
 replace Bb := Bb.ee hb
 replace Bc := Bc.ee hb
 replace Bd := Bd.ee hb
 replace hw := upB hw hb
 clear hb
 have F_abcd := J4 Ba.f Bb.f Bc.f Bd.f
 go_wp2_with fail
 refine (k4 _).mono ?_
 rintro e w6 ⟨rfl, hb⟩
 clear F_abcd
 replace Ba := Ba.ee hb
 replace Bb := Bb.ee hb
 replace Bc := Bc.ee hb
 replace Bd := Bd.ee hb
 replace hw := upB hw hb
 clear hb
 go_wp2
 go_ret
 exact ⟨rfl, hw⟩
theorem mil_100 (a b c d : Pt) (g1 : decide (cmpP b a < 0) = true) (g2 : decide (cmpP d c < 0) = false) (g3 : decide (cmpP b d < 0) = false) (w : World) :
    Calls Tryz.prog 119 #[.agg #[.int .i64 a.x, .int .i64 a.y], .agg #[.int .i64 b.x, .int .i64 b.y], .agg #[.int .i64 c.x, .int .i64 c.y], .agg #[.int .i64 d.x, .int .i64 d.y]] w fun e w' => e = .returned (.int .i64 0) ∧ Below w.heap.size w w' := by
 have k1 := zAm b a
 have k2 := zAm d c
 have k3 := zAm b d
 generalize cmpP b a = x0 at *
 generalize cmpP d c = x1 at *
 generalize cmpP b d = x2 at *
 go_enter Tryz.func119, Tryz.ntmps119
 go_wp2_with fail
 refine zA1 fun W1 hW => ?_
 have Ba : Box W1 (w.heap.size) [.int .i64 a.x, .int .i64 a.y] 30 := by rw [hW]; exact (((Box.new rfl).old _).old _).old _
 have Bb : Box W1 (w.heap.size + 1) [.int .i64 b.x, .int .i64 b.y] 30 := by rw [hW]; exact ((Box.new (by simp)).old _).old _
 have Bc : Box W1 (w.heap.size + 1 + 1) [.int .i64 c.x, .int .i64 c.y] 30 := by rw [hW]; exact (Box.new (by simp)).old _
 have Bd : Box W1 (w.heap.size + 1 + 1 + 1) [.int .i64 d.x, .int .i64 d.y] 30 := by rw [hW]; exact Box.new (by simp)
 have hw : Below w.heap.size w W1 := by rw [hW]; go_grown
 clear hW
 refine (k1 _).mono ?_
 rintro e w2 ⟨rfl, hb⟩
 replace Ba := Ba.ee hb
 replace Bb := Bb.ee hb
 replace Bc := Bc.ee hb
 replace Bd := Bd.ee hb
 replace hw := upB hw hb
 clear hb
 have F_abcd := J4 Ba.f Bb.f Bc.f Bd.f
 go_wp2_with fail
 refine zA1 fun W3 hW => ?_
 have Ca : Box W3 (w.heap.size) [.int .i64 b.x, .int .i64 b.y] 30 := by rw [hW]; exact ((((Ba.set 0 (.int .i64 b.x)).set 1 (.int .i64 b.y)).set_ne ⟨w.heap.size + 1, 0, none⟩ (.int .i64 a.x) (by show (w.heap.size + 1 : Nat) ≠ _; omega)).set_ne ⟨w.heap.size + 1, 1, none⟩ (.int .i64 a.y) (by show (w.heap.size + 1 : Nat) ≠ _; omega))
 have Cb : Box W3 (w.heap.size + 1) [.int .i64 a.x, .int .i64 a.y] 30 := by rw [hW]; exact ((((Bb.set_ne ⟨w.heap.size, 0, none⟩ (.int .i64 b.x) (by show (w.heap.size : Nat) ≠ _; omega)).set_ne ⟨w.heap.size, 1, none⟩ (.int .i64 b.y) (by show (w.heap.size : Nat) ≠ _; omega)).set 0 (.int .i64 a.x)).set 1 (.int .i64 a.y))
 have Cc : Box W3 (w.heap.size + 1 + 1) [.int .i64 c.x, .int .i64 c.y] 30 := by rw [hW]; exact ((((Bc.set_ne ⟨w.heap.size, 0, none⟩ (.int .i64 b.x) (by show (w.heap.size : Nat) ≠ _; omega)).set_ne ⟨w.heap.size, 1, none⟩ (.int .i64 b.y) (by show (w.heap.size : Nat) ≠ _; omega)).set_ne ⟨w.heap.size + 1, 0, none⟩ (.int .i64 a.x) (by show (w.heap.size + 1 : Nat) ≠ _; omega)).set_ne ⟨w.heap.size + 1, 1, none⟩ (.int .i64 a.y) (by show (w.heap.size + 1 : Nat) ≠ _; omega))
 have Cd : Box W3 (w.heap.size + 1 + 1 + 1) [.int .i64 d.x, .int .i64 d.y] 30 := by rw [hW]; exact ((((Bd.set_ne ⟨w.heap.size, 0, none⟩ (.int .i64 b.x) (by show (w.heap.size : Nat) ≠ _; omega)).set_ne ⟨w.heap.size, 1, none⟩ (.int .i64 b.y) (by show (w.heap.size : Nat) ≠ _; omega)).set_ne ⟨w.heap.size + 1, 0, none⟩ (.int .i64 a.x) (by show (w.heap.size + 1 : Nat) ≠ _; omega)).set_ne ⟨w.heap.size + 1, 1, none⟩ (.int .i64 a.y) (by show (w.heap.size + 1 : Nat) ≠ _; omega))
 replace hw : Below w.heap.size w W3 := by have hl := hw.size; rw [hW]; go_grown
 clear F_abcd
 clear hW Ba Bb Bc Bd
 have Ba := Ca
 have Bb := Cb
 have Bc := Cc
 have Bd := Cd
 clear Ca Cb Cc Cd
 refine (k2 _).mono ?_
 rintro e w4 ⟨rfl, hb⟩
 replace Ba := Ba.ee hb
 replace Bb := Bb.ee hb
 replace Bc := Bc.ee hb
 replace Bd := Bd.ee hb
 replace hw := upB hw hb
 clear hb
 have F_abcd := J4 Ba.f Bb.f Bc.f Bd.f
 go_wp2_with fail
 refine (k3 _).mono ?_
 rintro e w5 ⟨rfl, hb⟩
 clear F_abcd
 replace Ba := Ba.ee hb
 replace Bb := Bb.ee hb
 replace Bc := Bc.ee hb
 replace Bd := Bd.ee hb
 replace hw := upB hw hb
 clear hb
 go_wp2
 go_ret
 exact ⟨rfl, hw⟩
theorem mil_101 (a b c d : Pt) (g1 : decide (cmpP b a < 0) = true) (g2 : decide (cmpP d c < 0) = false) (g3 : decide (cmpP b d < 0) = true) (g4 : decide (cmpP c a < 0) = false) (w : World) :
    Calls Tryz.prog 119 #[.agg #[.int .i64 a.x, .int .i64 a.y], .agg #[.int .i64 b.x, .int .i64 b.y], .agg #[.int .i64 c.x, .int .i64 c.y], .agg #[.int .i64 d.x, .int .i64 d.y]] w fun e w' => e = .returned (.int .i64 0) ∧ Below w.heap.size w w' := by
 have k1 := zAm b a
 have k2 := zAm d c
 have k3 := zAm b d
 have k4 := zAm c a
 generalize cmpP b a = x0 at *
 generalize cmpP d c = x1 at *
 generalize cmpP b d = x2 at *
 generalize cmpP c a = x3 at *
 go_enter Tryz.func119, Tryz.ntmps119
 go_wp2_with fail
 refine zA1 fun W1 hW => ?_
 have Ba : Box W1 (w.heap.size) [.int .i64 a.x, .int .i64 a.y] 30 := by rw [hW]; exact (((Box.new rfl).old _).old _).old _
 have Bb : Box W1 (w.heap.size + 1) [.int .i64 b.x, .int .i64 b.y] 30 := by rw [hW]; exact ((Box.new (by simp)).old _).old _
 have Bc : Box W1 (w.heap.size + 1 + 1) [.int .i64 c.x, .int .i64 c.y] 30 := by rw [hW]; exact (Box.new (by simp)).old _
 have Bd : Box W1 (w.heap.size + 1 + 1 + 1) [.int .i64 d.x, .int .i64 d.y] 30 := by rw [hW]; exact Box.new (by simp)
 have hw : Below w.heap.size w W1 := by rw [hW]; go_grown
 clear hW
 refine (k1 _).mono ?_
 rintro e w2 ⟨rfl, hb⟩
 replace Ba := Ba.ee hb
 replace Bb := Bb.ee hb
 replace Bc := Bc.ee hb
 replace Bd := Bd.ee hb
 replace hw := upB hw hb
 clear hb
 have F_abcd := J4 Ba.f Bb.f Bc.f Bd.f
 go_wp2_with fail
 refine zA1 fun W3 hW => ?_
 have Ca : Box W3 (w.heap.size) [.int .i64 b.x, .int .i64 b.y] 30 := by rw [hW]; exact ((((Ba.set 0 (.int .i64 b.x)).set 1 (.int .i64 b.y)).set_ne ⟨w.heap.size + 1, 0, none⟩ (.int .i64 a.x) (by show (w.heap.size + 1 : Nat) ≠ _; omega)).set_ne ⟨w.heap.size + 1, 1, none⟩ (.int .i64 a.y) (by show (w.heap.size + 1 : Nat) ≠ _; omega))
 have Cb : Box W3 (w.heap.size + 1) [.int .i64 a.x, .int .i64 a.y] 30 := by rw [hW]; exact ((((Bb.set_ne ⟨w.heap.size, 0, none⟩ (.int .i64 b.x) (by show (w.heap.size : Nat) ≠ _; omega)).set_ne ⟨w.heap.size, 1, none⟩ (.int .i64 b.y) (by show (w.heap.size : Nat) ≠ _; omega)).set 0 (.int .i64 a.x)).set 1 (.int .i64 a.y))
 have Cc : Box W3 (w.heap.size + 1 + 1) [.int .i64 c.x, .int .i64 c.y] 30 := by rw [hW]; exact ((((Bc.set_ne ⟨w.heap.size, 0, none⟩ (.int .i64 b.x) (by show (w.heap.size : Nat) ≠ _; omega)).set_ne ⟨w.heap.size, 1, none⟩ (.int .i64 b.y) (by show (w.heap.size : Nat) ≠ _; omega)).set_ne ⟨w.heap.size + 1, 0, none⟩ (.int .i64 a.x) (by show (w.heap.size + 1 : Nat) ≠ _; omega)).set_ne ⟨w.heap.size + 1, 1, none⟩ (.int .i64 a.y) (by show (w.heap.size + 1 : Nat) ≠ _; omega))
 have Cd : Box W3 (w.heap.size + 1 + 1 + 1) [.int .i64 d.x, .int .i64 d.y] 30 := by rw [hW]; exact ((((Bd.set_ne ⟨w.heap.size, 0, none⟩ (.int .i64 b.x) (by show (w.heap.size : Nat) ≠ _; omega)).set_ne ⟨w.heap.size, 1, none⟩ (.int .i64 b.y) (by show (w.heap.size : Nat) ≠ _; omega)).set_ne ⟨w.heap.size + 1, 0, none⟩ (.int .i64 a.x) (by show (w.heap.size + 1 : Nat) ≠ _; omega)).set_ne ⟨w.heap.size + 1, 1, none⟩ (.int .i64 a.y) (by show (w.heap.size + 1 : Nat) ≠ _; omega))
 replace hw : Below w.heap.size w W3 := by have hl := hw.size; rw [hW]; go_grown
 clear F_abcd
 clear hW Ba Bb Bc Bd
 have Ba := Ca
 have Bb := Cb
 have Bc := Cc
 have Bd := Cd
 clear Ca Cb Cc Cd
 refine (k2 _).mono ?_
 rintro e w4 ⟨rfl, hb⟩
 replace Ba := Ba.ee hb
 replace Bb := Bb.ee hb
 replace Bc := Bc.ee hb
 replace Bd := Bd.ee hb
 replace hw := upB hw hb
 clear hb
 have F_abcd := J4 Ba.f Bb.f Bc.f Bd.f
 go_wp2_with fail
 refine (k3 _).mono ?_
 rintro e w5 ⟨rfl, hb⟩
 clear F_abcd
 replace Ba := Ba.ee hb
 replace Bb := Bb.ee hb
 replace Bc := Bc.ee hb
 replace Bd := Bd.ee hb
 replace hw := upB hw hb
 clear hb
 have F_abcd := J4 Ba.f Bb.f Bc.f Bd.f
 go_wp2_with fail
 refine (k4 _).mono ?_
 rintro e w6 ⟨rfl, hb⟩
 clear F_abcd
 replace Ba := Ba.ee hb
 replace Bb := Bb.ee hb
 replace Bc := Bc.ee hb
 replace Bd := Bd.ee hb
 replace hw := upB hw hb
 clear hb
 go_wp2
 go_ret
 exact ⟨rfl, hw⟩
theorem mil_102 (a b c d : Pt) (g1 : decide (cmpP b a < 0) = true) (g2 : decide (cmpP d c < 0) = false) (g3 : decide (cmpP b d < 0) = true) (g4 : decide (cmpP c a < 0) = true) (w : World) :
    Calls Tryz.prog 119 #[.agg #[.int .i64 a.x, .int .i64 a.y], .agg #[.int .i64 b.x, .int .i64 b.y], .agg #[.int .i64 c.x, .int .i64 c.y], .agg #[.int .i64 d.x, .int .i64 d.y]] w fun e w' => e = .returned (.int .i64 3) ∧ Below w.heap.size w w' := by
 have k1 := zAm b a
 have k2 := zAm d c
 have k3 := zAm b d
 have k4 := zAm c a
 generalize cmpP b a = x0 at *
 generalize cmpP d c = x1 at *
 generalize cmpP b d = x2 at *
 generalize cmpP c a = x3 at *
 go_enter Tryz.func119, Tryz.ntmps119
 go_wp2_with fail
 refine zA1 fun W1 hW => ?_
 have Ba : Box W1 (w.heap.size) [.int .i64 a.x, .int .i64 a.y] 30 := by rw [hW]; exact (((Box.new rfl).old _).old _).old _
 have Bb : Box W1 (w.heap.size + 1) [.int .i64 b.x, .int .i64 b.y] 30 := by rw [hW]; exact ((Box.new (by simp)).old _).old _
 have Bc : Box W1 (w.heap.size + 1 + 1) [.int .i64 c.x, .int .i64 c.y] 30 := by rw [hW]; exact (Box.new (by simp)).old _
 have Bd : Box W1 (w.heap.size + 1 + 1 + 1) [.int .i64 d.x, .int .i64 d.y] 30 := by rw [hW]; exact Box.new (by simp)
 have hw : Below w.heap.size w W1 := by rw [hW]; go_grown
 clear hW
 refine (k1 _).mono ?_
 rintro e w2 ⟨rfl, hb⟩
 replace Ba := Ba.ee hb
 replace Bb := Bb.ee hb
 replace Bc := Bc.ee hb
 replace Bd := Bd.ee hb
 replace hw := upB hw hb
 clear hb
 have F_abcd := J4 Ba.f Bb.f Bc.f Bd.f
 go_wp2_with fail
 refine zA1 fun W3 hW => ?_
 have Ca : Box W3 (w.heap.size) [.int .i64 b.x, .int .i64 b.y] 30 := by rw [hW]; exact ((((Ba.set 0 (.int .i64 b.x)).set 1 (.int .i64 b.y)).set_ne ⟨w.heap.size + 1, 0, none⟩ (.int .i64 a.x) (by show (w.heap.size + 1 : Nat) ≠ _; omega)).set_ne ⟨w.heap.size + 1, 1, none⟩ (.int .i64 a.y) (by show (w.heap.size + 1 : Nat) ≠ _; omega))
 have Cb : Box W3 (w.heap.size + 1) [.int .i64 a.x, .int .i64 a.y] 30 := by rw [hW]; exact ((((Bb.set_ne ⟨w.heap.size, 0, none⟩ (.int .i64 b.x) (by show (w.heap.size : Nat) ≠ _; omega)).set_ne ⟨w.heap.size, 1, none⟩ (.int .i64 b.y) (by show (w.heap.size : Nat) ≠ _; omega)).set 0 (.int .i64 a.x)).set 1 (.int .i64 a.y))
 have Cc : Box W3 (w.heap.size + 1 + 1) [.int .i64 c.x, .int .i64 c.y] 30 := by rw [hW]; exact ((((Bc.set_ne ⟨w.heap.size, 0, none⟩ (.int .i64 b.x) (by show (w.heap.size : Nat) ≠ _; omega)).set_ne ⟨w.heap.size, 1, none⟩ (.int .i64 b.y) (by show (w.heap.size : Nat) ≠ _; omega)).set_ne ⟨w.heap.size + 1, 0, none⟩ (.int .i64 a.x) (by show (w.heap.size + 1 : Nat) ≠ _; omega)).set_ne ⟨w.heap.size + 1, 1, none⟩ (.int .i64 a.y) (by show (w.heap.size + 1 : Nat) ≠ _; omega))
 have Cd : Box W3 (w.heap.size + 1 + 1 + 1) [.int .i64 d.x, .int .i64 d.y] 30 := by rw [hW]; exact ((((Bd.set_ne ⟨w.heap.size, 0, none⟩ (.int .i64 b.x) (by show (w.heap.size : Nat) ≠ _; omega)).set_ne ⟨w.heap.size, 1, none⟩ (.int .i64 b.y) (by show (w.heap.size : Nat) ≠ _; omega)).set_ne ⟨w.heap.size + 1, 0, none⟩ (.int .i64 a.x) (by show (w.heap.size + 1 : Nat) ≠ _; omega)).set_ne ⟨w.heap.size + 1, 1, none⟩ (.int .i64 a.y) (by show (w.heap.size + 1 : Nat) ≠ _; omega))
 replace hw : Below w.heap.size w W3 := by have hl := hw.size; rw [hW]; go_grown
 clear F_abcd
 clear hW Ba Bb Bc Bd
 have Ba := Ca
 have Bb := Cb
 have Bc := Cc
 have Bd := Cd
 clear Ca Cb Cc Cd
 refine (k2 _).mono ?_
 rintro e w4 ⟨rfl, hb⟩
 replace Ba := Ba.ee hb
 replace Bb := Bb.ee hb
 replace Bc := Bc.ee hb
 replace Bd := Bd.ee hb
 replace hw := upB hw hb
 clear hb
 have F_abcd := J4 Ba.f Bb.f Bc.f Bd.f
 go_wp2_with fail
 refine (k3 _).mono ?_
 rintro e w5 ⟨rfl, hb⟩
 clear F_abcd
 replace Ba := Ba.ee hb
 replace Bb := Bb.ee hb
 replace Bc := Bc.ee hb
 replace Bd := Bd.ee hb
 replace hw := upB hw hb
 clear hb
 have F_abcd := J4 Ba.f Bb.f Bc.f Bd.f
 go_wp2_with fail
 refine (k4 _).mono ?_
 rintro e w6 ⟨rfl, hb⟩
 clear F_abcd
 replace Ba := Ba.ee hb
 replace Bb := Bb.ee hb
 replace Bc := Bc.ee hb
 replace Bd := Bd.ee hb
 replace hw := upB hw hb
 clear hb
 go_wp2
 go_ret
 exact ⟨rfl, hw⟩
theorem mil_110 (a b c d : Pt) (g1 : decide (cmpP b a < 0) = true) (g2 : decide (cmpP d c < 0) = true) (g3 : decide (cmpP b c < 0) = false) (w : World) :
    Calls Tryz.prog 119 #[.agg #[.int .i64 a.x, .int .i64 a.y], .agg #[.int .i64 b.x, .int .i64 b.y], .agg #[.int .i64 c.x, .int .i64 c.y], .agg #[.int .i64 d.x, .int .i64 d.y]] w fun e w' => e = .returned (.int .i64 0) ∧ Below w.heap.size w w' := by
 have k1 := zAm b a
 have k2 := zAm d c
 have k3 := zAm b c
 generalize cmpP b a = x0 at *
 generalize cmpP d c = x1 at *
 generalize cmpP b c = x2 at *
 go_enter Tryz.func119, Tryz.ntmps119
 go_wp2_with fail
 refine zA1 fun W1 hW => ?_
 have Ba : Box W1 (w.heap.size) [.int .i64 a.x, .int .i64 a.y] 30 := by rw [hW]; exact (((Box.new rfl).old _).old _).old _
 have Bb : Box W1 (w.heap.size + 1) [.int .i64 b.x, .int .i64 b.y] 30 := by rw [hW]; exact ((Box.new (by simp)).old _).old _
 have Bc : Box W1 (w.heap.size + 1 + 1) [.int .i64 c.x, .int .i64 c.y] 30 := by rw [hW]; exact (Box.new (by simp)).old _
 have Bd : Box W1 (w.heap.size + 1 + 1 + 1) [.int .i64 d.x, .int .i64 d.y] 30 := by rw [hW]; exact Box.new (by simp)
 have hw : Below w.heap.size w W1 := by rw [hW]; go_grown
 clear hW
 refine (k1 _).mono ?_
 rintro e w2 ⟨rfl, hb⟩
 replace Ba := Ba.ee hb
 replace Bb := Bb.ee hb
 replace Bc := Bc.ee hb
 replace Bd := Bd.ee hb
 replace hw := upB hw hb
 clear hb
 have F_abcd := J4 Ba.f Bb.f Bc.f Bd.f
 go_wp2_with fail
 refine zA1 fun W3 hW => ?_
 have Ca : Box W3 (w.heap.size) [.int .i64 b.x, .int .i64 b.y] 30 := by rw [hW]; exact ((((Ba.set 0 (.int .i64 b.x)).set 1 (.int .i64 b.y)).set_ne ⟨w.heap.size + 1, 0, none⟩ (.int .i64 a.x) (by show (w.heap.size + 1 : Nat) ≠ _; omega)).set_ne ⟨w.heap.size + 1, 1, none⟩ (.int .i64 a.y) (by show (w.heap.size + 1 : Nat) ≠ _; omega))
 have Cb : Box W3 (w.heap.size + 1) [.int .i64 a.x, .int .i64 a.y] 30 := by rw [hW]; exact ((((Bb.set_ne ⟨w.heap.size, 0, none⟩ (.int .i64 b.x) (by show (w.heap.size : Nat) ≠ _; omega)).set_ne ⟨w.heap.size, 1, none⟩ (.int .i64 b.y) (by show (w.heap.size : Nat) ≠ _; omega)).set 0 (.int .i64 a.x)).set 1 (.int .i64 a.y))
 have Cc : Box W3 (w.heap.size + 1 + 1) [.int .i64 c.x, .int .i64 c.y] 30 := by rw [hW]; exact ((((Bc.set_ne ⟨w.heap.size, 0, none⟩ (.int .i64 b.x) (by show (w.heap.size : Nat) ≠ _; omega)).set_ne ⟨w.heap.size, 1, none⟩ (.int .i64 b.y) (by show (w.heap.size : Nat) ≠ _; omega)).set_ne ⟨w.heap.size + 1, 0, none⟩ (.int .i64 a.x) (by show (w.heap.size + 1 : Nat) ≠ _; omega)).set_ne ⟨w.heap.size + 1, 1, none⟩ (.int .i64 a.y) (by show (w.heap.size + 1 : Nat) ≠ _; omega))
 have Cd : Box W3 (w.heap.size + 1 + 1 + 1) [.int .i64 d.x, .int .i64 d.y] 30 := by rw [hW]; exact ((((Bd.set_ne ⟨w.heap.size, 0, none⟩ (.int .i64 b.x) (by show (w.heap.size : Nat) ≠ _; omega)).set_ne ⟨w.heap.size, 1, none⟩ (.int .i64 b.y) (by show (w.heap.size : Nat) ≠ _; omega)).set_ne ⟨w.heap.size + 1, 0, none⟩ (.int .i64 a.x) (by show (w.heap.size + 1 : Nat) ≠ _; omega)).set_ne ⟨w.heap.size + 1, 1, none⟩ (.int .i64 a.y) (by show (w.heap.size + 1 : Nat) ≠ _; omega))
 replace hw : Below w.heap.size w W3 := by have hl := hw.size; rw [hW]; go_grown
 clear F_abcd
 clear hW Ba Bb Bc Bd
 have Ba := Ca
 have Bb := Cb
 have Bc := Cc
 have Bd := Cd
 clear Ca Cb Cc Cd
 refine (k2 _).mono ?_
 rintro e w4 ⟨rfl, hb⟩
 replace Ba := Ba.ee hb
 replace Bb := Bb.ee hb
 replace Bc := Bc.ee hb
 replace Bd := Bd.ee hb
 replace hw := upB hw hb
 clear hb
 have F_abcd := J4 Ba.f Bb.f Bc.f Bd.f
 go_wp2_with fail
 refine zA1 fun W5 hW => ?_
 have Ca : Box W5 (w.heap.size) [.int .i64 b.x, .int .i64 b.y] 30 := by rw [hW]; exact ((((Ba.set_ne ⟨w.heap.size + 1 + 1, 0, none⟩ (.int .i64 d.x) (by show (w.heap.size + 1 + 1 : Nat) ≠ _; omega)).set_ne ⟨w.heap.size + 1 + 1, 1, none⟩ (.int .i64 d.y) (by show (w.heap.size + 1 + 1 : Nat) ≠ _; omega)).set_ne ⟨w.heap.size + 1 + 1 + 1, 0, none⟩ (.int .i64 c.x) (by show (w.heap.size + 1 + 1 + 1 : Nat) ≠ _; omega)).set_ne ⟨w.heap.size + 1 + 1 + 1, 1, none⟩ (.int .i64 c.y) (by show (w.heap.size + 1 + 1 + 1 : Nat) ≠ _; omega))
 have Cb : Box W5 (w.heap.size + 1) [.int .i64 a.x, .int .i64 a.y] 30 := by rw [hW]; exact ((((Bb.set_ne ⟨w.heap.size + 1 + 1, 0, none⟩ (.int .i64 d.x) (by show (w.heap.size + 1 + 1 : Nat) ≠ _; omega)).set_ne ⟨w.heap.size + 1 + 1, 1, none⟩ (.int .i64 d.y) (by show (w.heap.size + 1 + 1 : Nat) ≠ _; omega)).set_ne ⟨w.heap.size + 1 + 1 + 1, 0, none⟩ (.int .i64 c.x) (by show (w.heap.size + 1 + 1 + 1 : Nat) ≠ _; omega)).set_ne ⟨w.heap.size + 1 + 1 + 1, 1, none⟩ (.int .i64 c.y) (by show (w.heap.size + 1 + 1 + 1 : Nat) ≠ _; omega))
 have Cc : Box W5 (w.heap.size + 1 + 1) [.int .i64 d.x, .int .i64 d.y] 30 := by rw [hW]; exact ((((Bc.set 0 (.int .i64 d.x)).set 1 (.int .i64 d.y)).set_ne ⟨w.heap.size + 1 + 1 + 1, 0, none⟩ (.int .i64 c.x) (by show (w.heap.size + 1 + 1 + 1 : Nat) ≠ _; omega)).set_ne ⟨w.heap.size + 1 + 1 + 1, 1, none⟩ (.int .i64 c.y) (by show (w.heap.size + 1 + 1 + 1 : Nat) ≠ _; omega))
 have Cd : Box W5 (w.heap.size + 1 + 1 + 1) [.int .i64 c.x, .int .i64 c.y] 30 := by rw [hW]; exact ((((Bd.set_ne ⟨w.heap.size + 1 + 1, 0, none⟩ (.int .i64 d.x) (by show (w.heap.size + 1 + 1 : Nat) ≠ _; omega)).set_ne ⟨w.heap.size + 1 + 1, 1, none⟩ (.int .i64 d.y) (by show (w.heap.size + 1 + 1 : Nat) ≠ _; omega)).set 0 (.int .i64 c.x)).set 1 (.int .i64 c.y))
 replace hw : Below w.heap.size w W5 := by have hl := hw.size; rw [hW]; go_grown
 clear F_abcd
 clear hW Ba Bb Bc Bd
 have Ba := Ca
 have Bb := Cb
 have Bc := Cc
 have Bd := Cd
 clear Ca Cb Cc Cd
 refine (k3 _).mono ?_
 rintro e w6 ⟨rfl, hb⟩
 replace Ba := Ba.ee hb
 replace Bb := Bb.ee hb
 replace Bc := Bc.ee hb
 replace Bd := Bd.ee hb
 replace hw := upB hw hb
 clear hb
 go_wp2
 go_ret
 exact ⟨rfl, hw⟩
theorem mil_111 (a b c d : Pt) (g1 : decide (cmpP b a < 0) = true) (g2 : decide (cmpP d c < 0) = true) (g3 : decide (cmpP b c < 0) = true) (g4 : decide (cmpP d a < 0) = false) (w : World) :
    Calls Tryz.prog 119 #[.agg #[.int .i64 a.x, .int .i64 a.y], .agg #[.int .i64 b.x, .int .i64 b.y], .agg #[.int .i64 c.x, .int .i64 c.y], .agg #[.int .i64 d.x, .int .i64 d.y]] w fun e w' => e = .returned (.int .i64 0) ∧ Below w.heap.size w w' := by
 have k1 := zAm b a
 have k2 := zAm d c
 have k3 := zAm b c
 have k4 := zAm d a
 generalize cmpP b a = x0 at *
 generalize cmpP d c = x1 at *
 generalize cmpP b c = x2 at *
 generalize cmpP d a = x3 at *
 go_enter Tryz.func119, Tryz.ntmps119
 go_wp2_with fail
 refine zA1 fun W1 hW => ?_
 have Ba : Box W1 (w.heap.size) [.int .i64 a.x, .int .i64 a.y] 30 := by rw [hW]; exact (((Box.new rfl).old _).old _).old _
 have Bb : Box W1 (w.heap.size + 1) [.int .i64 b.x, .int .i64 b.y] 30 := by rw [hW]; exact ((Box.new (by simp)).old _).old _
 have Bc : Box W1 (w.heap.size + 1 + 1) [.int .i64 c.x, .int .i64 c.y] 30 := by rw [hW]; exact (Box.new (by simp)).old _
 have Bd : Box W1 (w.heap.size + 1 + 1 + 1) [.int .i64 d.x, .int .i64 d.y] 30 := by rw [hW]; exact Box.new (by simp)
 have hw : Below w.heap.size w W1 := by rw [hW]; go_grown
 clear hW
 refine (k1 _).mono ?_
 rintro e w2 ⟨rfl, hb⟩
 replace Ba := Ba.ee hb
 replace Bb := Bb.ee hb
 replace Bc := Bc.ee hb
 replace Bd := Bd.ee hb
 replace hw := upB hw hb
 clear hb
 have F_abcd := J4 Ba.f Bb.f Bc.f Bd.f
 go_wp2_with fail
 refine zA1 fun W3 hW => ?_
 have Ca : Box W3 (w.heap.size) [.int .i64 b.x, .int .i64 b.y] 30 := by rw [hW]; exact ((((Ba.set 0 (.int .i64 b.x)).set 1 (.int .i64 b.y)).set_ne ⟨w.heap.size + 1, 0, none⟩ (.int .i64 a.x) (by show (w.heap.size + 1 : Nat) ≠ _; omega)).set_ne ⟨w.heap.size + 1, 1, none⟩ (.int .i64 a.y) (by show (w.heap.size + 1 : Nat) ≠ _; omega))
 have Cb : Box W3 (w.heap.size + 1) [.int .i64 a.x, .int .i64 a.y] 30 := by rw [hW]; exact ((((Bb.set_ne ⟨w.heap.size, 0, none⟩ (.int .i64 b.x) (by show (w.heap.size : Nat) ≠ _; omega)).set_ne ⟨w.heap.size, 1, none⟩ (.int .i64 b.y) (by show (w.heap.size : Nat) ≠ _; omega)).set 0 (.int .i64 a.x)).set 1 (.int .i64 a.y))
 have Cc : Box W3 (w.heap.size + 1 + 1) [.int .i64 c.x, .int .i64 c.y] 30 := by rw [hW]; exact ((((Bc.set_ne ⟨w.heap.size, 0, none⟩ (.int .i64 b.x) (by show (w.heap.size : Nat) ≠ _; omega)).set_ne ⟨w.heap.size, 1, none⟩ (.int .i64 b.y) (by show (w.heap.size : Nat) ≠ _; omega)).set_ne ⟨w.heap.size + 1, 0, none⟩ (.int .i64 a.x) (by show (w.heap.size + 1 : Nat) ≠ _; omega)).set_ne ⟨w.heap.size + 1, 1, none⟩ (.int .i64 a.y) (by show (w.heap.size + 1 : Nat) ≠ _; omega))
 have Cd : Box W3 (w.heap.size + 1 + 1 + 1) [.int .i64 d.x, .int .i64 d.y] 30 := by rw [hW]; exact ((((Bd.set_ne ⟨w.heap.size, 0, none⟩ (.int .i64 b.x) (by show (w.heap.size : Nat) ≠ _; omega)).set_ne ⟨w.heap.size, 1, none⟩ (.int .i64 b.y) (by show (w.heap.size : Nat) ≠ _; omega)).set_ne ⟨w.heap.size + 1, 0, none⟩ (.int .i64 a.x) (by show (w.heap.size + 1 : Nat) ≠ _; omega)).set_ne ⟨w.heap.size + 1, 1, none⟩ (.int .i64 a.y) (by show (w.heap.size + 1 : Nat) ≠ _; omega))
 replace hw : Below w.heap.size w W3 := by have hl := hw.size; rw [hW]; go_grown
 clear F_abcd
 clear hW Ba Bb Bc Bd
 have Ba := Ca
 have Bb := Cb
 have Bc := Cc
 have Bd := Cd
 clear Ca Cb Cc Cd
 refine (k2 _).mono ?_
 rintro e w4 ⟨rfl, hb⟩
 replace Ba := Ba.ee hb
 replace Bb := Bb.ee hb
 replace Bc := Bc.ee hb
 replace Bd := Bd.ee hb
 replace hw := upB hw hb
 clear hb
 have F_abcd := J4 Ba.f Bb.f Bc.f Bd.f
 go_wp2_with fail
 refine zA1 fun W5 hW => ?_
 have Ca : Box W5 (w.heap.size) [.int .i64 b.x, .int .i64 b.y] 30 := by rw [hW]; exact ((((Ba.set_ne ⟨w.heap.size + 1 + 1, 0, none⟩ (.int .i64 d.x) (by show (w.heap.size + 1 + 1 : Nat) ≠ _; omega)).set_ne ⟨w.heap.size + 1 + 1, 1, none⟩ (.int .i64 d.y) (by show (w.heap.size + 1 + 1 : Nat) ≠ _; omega)).set_ne ⟨w.heap.size + 1 + 1 + 1, 0, none⟩ (.int .i64 c.x) (by show (w.heap.size + 1 + 1 + 1 : Nat) ≠ _; omega)).set_ne ⟨w.heap.size + 1 + 1 + 1, 1, none⟩ (.int .i64 c.y) (by show (w.heap.size + 1 + 1 + 1 : Nat) ≠ _; omega))
 have Cb : Box W5 (w.heap.size + 1) [.int .i64 a.x, .int .i64 a.y] 30 := by rw [hW]; exact ((((Bb.set_ne ⟨w.heap.size + 1 + 1, 0, none⟩ (.int .i64 d.x) (by show (w.heap.size + 1 + 1 : Nat) ≠ _; omega)).set_ne ⟨w.heap.size + 1 + 1, 1, none⟩ (.int .i64 d.y) (by show (w.heap.size + 1 + 1 : Nat) ≠ _; omega)).set_ne ⟨w.heap.size + 1 + 1 + 1, 0, none⟩ (.int .i64 c.x) (by show (w.heap.size + 1 + 1 + 1 : Nat) ≠ _; omega)).set_ne ⟨w.heap.size + 1 + 1 + 1, 1, none⟩ (.int .i64 c.y) (by show (w.heap.size + 1 + 1 + 1 : Nat) ≠ _; omega))
 have Cc : Box W5 (w.heap.size + 1 + 1) [.int .i64 d.x, .int .i64 d.y] 30 := by rw [hW]; exact ((((Bc.set 0 (.int .i64 d.x)).set 1 (.int .i64 d.y)).set_ne ⟨w.heap.size + 1 + 1 + 1, 0, none⟩ (.int .i64 c.x) (by show (w.heap.size + 1 + 1 + 1 : Nat) ≠ _; omega)).set_ne ⟨w.heap.size + 1 + 1 + 1, 1, none⟩ (.int .i64 c.y) (by show (w.heap.size + 1 + 1 + 1 : Nat) ≠ _; omega))
 have Cd : Box W5 (w.heap.size + 1 + 1 + 1) [.int .i64 c.x, .int .i64 c.y] 30 := by rw [hW]; exact ((((Bd.set_ne ⟨w.heap.size + 1 + 1, 0, none⟩ (.int .i64 d.x) (by show (w.heap.size + 1 + 1 : Nat) ≠ _; omega)).set_ne ⟨w.heap.size + 1 + 1, 1, none⟩ (.int .i64 d.y) (by show (w.heap.size + 1 + 1 : Nat) ≠ _; omega)).set 0 (.int .i64 c.x)).set 1 (.int .i64 c.y))
 replace hw : Below w.heap.size w W5 := by have hl := hw.size; rw [hW]; go_grown
 clear F_abcd
 clear hW Ba Bb Bc Bd
 have Ba := Ca
 have Bb := Cb
 have Bc := Cc
 have Bd := Cd
 clear Ca Cb Cc Cd
 refine (k3 _).mono ?_
 rintro e w6 ⟨rfl, hb⟩
 replace Ba := Ba.ee hb
 replace Bb := Bb.ee hb
 replace Bc := Bc.ee hb
 replace Bd := Bd.ee hb
 replace hw := upB hw hb
 clear hb
 have F_abcd := J4 Ba.f Bb.f Bc.f Bd.f
 go_wp2_with fail
 refine (k4 _).mono ?_
 rintro e w7 ⟨rfl, hb⟩
 clear F_abcd
 replace Ba := Ba.ee hb
 replace Bb := Bb.ee hb
 replace Bc := Bc.ee hb
 replace Bd := Bd.ee hb
 replace hw := upB hw hb
 clear hb
 go_wp2
 go_ret
 exact ⟨rfl, hw⟩
theorem mil_112 (a b c d : Pt) (g1 : decide (cmpP b a < 0) = true) (g2 : decide (cmpP d c < 0) = true) (g3 : decide (cmpP b c < 0) = true) (g4 : decide (cmpP d a < 0) = true) (w : World) :
    Calls Tryz.prog 119 #[.agg #[.int .i64 a.x, .int .i64 a.y], .agg #[.int .i64 b.x, .int .i64 b.y], .agg #[.int .i64 c.x, .int .i64 c.y], .agg #[.int .i64 d.x, .int .i64 d.y]] w fun e w' => e = .returned (.int .i64 3) ∧ Below w.heap.size w w' := by
 have k1 := zAm b a
 have k2 := zAm d c
 have k3 := zAm b c
 have k4 := zAm d a
 generalize cmpP b a = x0 at *
 generalize cmpP d c = x1 at *
 generalize cmpP b c = x2 at *
 generalize cmpP d a = x3 at *
 go_enter Tryz.func119, Tryz.ntmps119
 go_wp2_with fail
 refine zA1 fun W1 hW => ?_
 have Ba : Box W1 (w.heap.size) [.int .i64 a.x, .int .i64 a.y] 30 := by rw [hW]; exact (((Box.new rfl).old _).old _).old _
 have Bb : Box W1 (w.heap.size + 1) [.int .i64 b.x, .int .i64 b.y] 30 := by rw [hW]; exact ((Box.new (by simp)).old _).old _
 have Bc : Box W1 (w.heap.size + 1 + 1) [.int .i64 c.x, .int .i64 c.y] 30 := by rw [hW]; exact (Box.new (by simp)).old _
 have Bd : Box W1 (w.heap.size + 1 + 1 + 1) [.int .i64 d.x, .int .i64 d.y] 30 := by rw [hW]; exact Box.new (by simp)
 have hw : Below w.heap.size w W1 := by rw [hW]; go_grown
 clear hW
 refine (k1 _).mono ?_
 rintro e w2 ⟨rfl, hb⟩
 replace Ba := Ba.ee hb
 replace Bb := Bb.ee hb
 replace Bc := Bc.ee hb
 replace Bd := Bd.ee hb
 replace hw := upB hw hb
 clear hb
 have F_abcd := J4 Ba.f Bb.f Bc.f Bd.f
 go_wp2_with fail
 refine zA1 fun W3 hW => ?_
 have Ca : Box W3 (w.heap.size) [.int .i64 b.x, .int .i64 b.y] 30 := by rw [hW]; exact ((((Ba.set 0 (.int .i64 b.x)).set 1 (.int .i64 b.y)).set_ne ⟨w.heap.size + 1, 0, none⟩ (.int .i64 a.x) (by show (w.heap.size + 1 : Nat) ≠ _; omega)).set_ne ⟨w.heap.size + 1, 1, none⟩ (.int .i64 a.y) (by show (w.heap.size + 1 : Nat) ≠ _; omega))
 have Cb : Box W3 (w.heap.size + 1) [.int .i64 a.x, .int .i64 a.y] 30 := by rw [hW]; exact ((((Bb.set_ne ⟨w.heap.size, 0, none⟩ (.int .i64 b.x) (by show (w.heap.size : Nat) ≠ _; omega)).set_ne ⟨w.heap.size, 1, none⟩ (.int .i64 b.y) (by show (w.heap.size : Nat) ≠ _; omega)).set 0 (.int .i64 a.x)).set 1 (.int .i64 a.y))
 have Cc : Box W3 (w.heap.size + 1 + 1) [.int .i64 c.x, .int .i64 c.y] 30 := by rw [hW]; exact ((((Bc.set_ne ⟨w.heap.size, 0, none⟩ (.int .i64 b.x) (by show (w.heap.size : Nat) ≠ _; omega)).set_ne ⟨w.heap.size, 1, none⟩ (.int .i64 b.y) (by show (w.heap.size : Nat) ≠ _; omega)).set_ne ⟨w.heap.size + 1, 0, none⟩ (.int .i64 a.x) (by show (w.heap.size + 1 : Nat) ≠ _; omega)).set_ne ⟨w.heap.size + 1, 1, none⟩ (.int .i64 a.y) (by show (w.heap.size + 1 : Nat) ≠ _; omega))
 have Cd : Box W3 (w.heap.size + 1 + 1 + 1) [.int .i64 d.x, .int .i64 d.y] 30 := by rw [hW]; exact ((((Bd.set_ne ⟨w.heap.size, 0, none⟩ (.int .i64 b.x) (by show (w.heap.size : Nat) ≠ _; omega)).set_ne ⟨w.heap.size, 1, none⟩ (.int .i64 b.y) (by show (w.heap.size : Nat) ≠ _; omega)).set_ne ⟨w.heap.size + 1, 0, none⟩ (.int .i64 a.x) (by show (w.heap.size + 1 : Nat) ≠ _; omega)).set_ne ⟨w.heap.size + 1, 1, none⟩ (.int .i64 a.y) (by show (w.heap.size + 1 : Nat) ≠ _; omega))
 replace hw : Below w.heap.size w W3 := by have hl := hw.size; rw [hW]; go_grown
 clear F_abcd
 clear hW Ba Bb Bc Bd
 have Ba := Ca
 have Bb := Cb
 have Bc := Cc
 have Bd := Cd
 clear Ca Cb Cc Cd
 refine (k2 _).mono ?_
 rintro e w4 ⟨rfl, hb⟩
 replace Ba := Ba.ee hb
 replace Bb := Bb.ee hb
 replace Bc := Bc.ee hb
 replace Bd := Bd.ee hb
 replace hw := upB hw hb
 clear hb
 have F_abcd := J4 Ba.f Bb.f Bc.f Bd.f
 go_wp2_with fail
 refine zA1 fun W5 hW => ?_
 have Ca : Box W5 (w.heap.size) [.int .i64 b.x, .int .i64 b.y] 30 := by rw [hW]; exact ((((Ba.set_ne ⟨w.heap.size + 1 + 1, 0, none⟩ (.int .i64 d.x) (by show (w.heap.size + 1 + 1 : Nat) ≠ _; omega)).set_ne ⟨w.heap.size + 1 + 1, 1, none⟩ (.int .i64 d.y) (by show (w.heap.size + 1 + 1 : Nat) ≠ _; omega)).set_ne ⟨w.heap.size + 1 + 1 + 1, 0, none⟩ (.int .i64 c.x) (by show (w.heap.size + 1 + 1 + 1 : Nat) ≠ _; omega)).set_ne ⟨w.heap.size + 1 + 1 + 1, 1, none⟩ (.int .i64 c.y) (by show (w.heap.size + 1 + 1 + 1 : Nat) ≠ _; omega))
 have Cb : Box W5 (w.heap.size + 1) [.int .i64 a.x, .int .i64 a.y] 30 := by rw [hW]; exact ((((Bb.set_ne ⟨w.heap.size + 1 + 1, 0, none⟩ (.int .i64 d.x) (by show (w.heap.size + 1 + 1 : Nat) ≠ _; omega)).set_ne ⟨w.heap.size + 1 + 1, 1, none⟩ (.int .i64 d.y) (by show (w.heap.size + 1 + 1 : Nat) ≠ _; omega)).set_ne ⟨w.heap.size + 1 + 1 + 1, 0, none⟩ (.int .i64 c.x) (by show (w.heap.size + 1 + 1 + 1 : Nat) ≠ _; omega)).set_ne ⟨w.heap.size + 1 + 1 + 1, 1, none⟩ (.int .i64 c.y) (by show (w.heap.size + 1 + 1 + 1 : Nat) ≠ _; omega))
 have Cc : Box W5 (w.heap.size + 1 + 1) [.int .i64 d.x, .int .i64 d.y] 30 := by rw [hW]; exact ((((Bc.set 0 (.int .i64 d.x)).set 1 (.int .i64 d.y)).set_ne ⟨w.heap.size + 1 + 1 + 1, 0, none⟩ (.int .i64 c.x) (by show (w.heap.size + 1 + 1 + 1 : Nat) ≠ _; omega)).set_ne ⟨w.heap.size + 1 + 1 + 1, 1, none⟩ (.int .i64 c.y) (by show (w.heap.size + 1 + 1 + 1 : Nat) ≠ _; omega))
 have Cd : Box W5 (w.heap.size + 1 + 1 + 1) [.int .i64 c.x, .int .i64 c.y] 30 := by rw [hW]; exact ((((Bd.set_ne ⟨w.heap.size + 1 + 1, 0, none⟩ (.int .i64 d.x) (by show (w.heap.size + 1 + 1 : Nat) ≠ _; omega)).set_ne ⟨w.heap.size + 1 + 1, 1, none⟩ (.int .i64 d.y) (by show (w.heap.size + 1 + 1 : Nat) ≠ _; omega)).set 0 (.int .i64 c.x)).set 1 (.int .i64 c.y))
 replace hw : Below w.heap.size w W5 := by have hl := hw.size; rw [hW]; go_grown
 clear F_abcd
 clear hW Ba Bb Bc Bd
 have Ba := Ca
 have Bb := Cb
 have Bc := Cc
 have Bd := Cd
 clear Ca Cb Cc Cd
 refine (k3 _).mono ?_
 rintro e w6 ⟨rfl, hb⟩
 replace Ba := Ba.ee hb
 replace Bb := Bb.ee hb
 replace Bc := Bc.ee hb
 replace Bd := Bd.ee hb
 replace hw := upB hw hb
 clear hb
 have F_abcd := J4 Ba.f Bb.f Bc.f Bd.f
 go_wp2_with fail
 refine (k4 _).mono ?_
 rintro e w7 ⟨rfl, hb⟩
 clear F_abcd
 replace Ba := Ba.ee hb
 replace Bb := Bb.ee hb
 replace Bc := Bc.ee hb
 replace Bd := Bd.ee hb
 replace hw := upB hw hb
 clear hb
 go_wp2
 go_ret
 exact ⟨rfl, hw⟩
theorem mil_any (a b c d : Pt) (w : World) :
    Calls Tryz.prog 119 #[.agg #[.int .i64 a.x, .int .i64 a.y], .agg #[.int .i64 b.x, .int .i64 b.y], .agg #[.int .i64 c.x, .int .i64 c.y], .agg #[.int .i64 d.x, .int .i64 d.y]] w fun e w' => e = .returned (.int .i64 (mil a b c d)) ∧ Below w.heap.size w w' := by
 have dt : ∀ {x : Int}, x < 0 → decide (x < 0) = true := fun h => by simpa using h
 have df : ∀ {x : Int}, ¬ x < 0 → decide (x < 0) = false := fun h => by simpa using h
 unfold mil lo2 hi2
 by_cases g1 : cmpP b a < 0
 ·by_cases g2 : cmpP d c < 0
  ·simp only [if_pos g1, if_pos g2]
   by_cases g3 : cmpP b c < 0
   ·by_cases g4 : cmpP d a < 0
    ·rw [if_pos g3, if_pos g4]; exact mil_112 a b c d (dt g1) (dt g2) (dt g3) (dt g4) w
    ·rw [if_pos g3, if_neg g4]; exact mil_111 a b c d (dt g1) (dt g2) (dt g3) (df g4) w
   ·rw [if_neg g3]; exact mil_110 a b c d (dt g1) (dt g2) (df g3) w
  ·simp only [if_pos g1, if_neg g2]
   by_cases g3 : cmpP b d < 0
   ·by_cases g4 : cmpP c a < 0
    ·rw [if_pos g3, if_pos g4]; exact mil_102 a b c d (dt g1) (df g2) (dt g3) (dt g4) w
    ·rw [if_pos g3, if_neg g4]; exact mil_101 a b c d (dt g1) (df g2) (dt g3) (df g4) w
   ·rw [if_neg g3]; exact mil_100 a b c d (dt g1) (df g2) (df g3) w
 ·by_cases g2 : cmpP d c < 0
  ·simp only [if_neg g1, if_pos g2]
   by_cases g3 : cmpP a c < 0
   ·by_cases g4 : cmpP d b < 0
    ·rw [if_pos g3, if_pos g4]; exact mil_012 a b c d (df g1) (dt g2) (dt g3) (dt g4) w
    ·rw [if_pos g3, if_neg g4]; exact mil_011 a b c d (df g1) (dt g2) (dt g3) (df g4) w
   ·rw [if_neg g3]; exact mil_010 a b c d (df g1) (dt g2) (df g3) w
  ·simp only [if_neg g1, if_neg g2]
   by_cases g3 : cmpP a d < 0
   ·by_cases g4 : cmpP c b < 0
    ·rw [if_pos g3, if_pos g4]; exact mil_002 a b c d (df g1) (df g2) (dt g3) (dt g4) w
    ·rw [if_pos g3, if_neg g4]; exact mil_001 a b c d (df g1) (df g2) (dt g3) (df g4) w
   ·rw [if_neg g3]; exact mil_000 a b c d (df g1) (df g2) (df g3) w
end Go.Proofs.YtmobnmjjmafibaaGreat
