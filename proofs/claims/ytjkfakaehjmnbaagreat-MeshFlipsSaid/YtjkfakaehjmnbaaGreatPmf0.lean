/- Put together: Map, WideM, ExM, Key, Region. -/
import Derived.Maps.RangeWalk
import Derived.Maps.OwnSet
import Derived.DeepKeys4
import Derived.Below
import Derived.Handy
import Derived.WalkKit
import Derived.Test.YtjkfakaehjmnbaaGreatRows
import Derived.KernelRfl
import Derived.StillTail
import Derived.Lib.QuietBelow
set_option maxRecDepth 100000
set_option maxHeartbeats 8000000
namespace Go.Proofs.YtjkfakaehjmnbaaGreat
open Go Go.ChangeMaps Go.MapKept Go.Maps Go.RowKit
theorem tK1 {α : Type} {n : Nat} {a : α} {l : List α} : (a :: l).take (n + 1) = a :: l.take n := rfl
theorem tK0 {α : Type} {l : List α} : l.take 0 = [] := rfl
theorem dP1 {α : Type} {n : Nat} {a : α} {l : List α} : (a :: l).drop (n + 1) = l.drop n := rfl
theorem dP0 {α : Type} {l : List α} : l.drop 0 = l := rfl
theorem sT2 {α : Type} {l : List α} {i : Nat} {a : α} : l.toArray.setIfInBounds i a = (l.set i a).toArray := List.setIfInBounds_toArray l i a
theorem sT1 {α : Type} {a b : α} {l : List α} {n : Nat} : (a :: l).set (n + 1) b = a :: l.set n b := rfl
theorem sT0 {α : Type} {a b : α} {l : List α} : (a :: l).set 0 b = b :: l := rfl
theorem upB {w w' w2 : World} (h : Below w.heap.size w w') (k : Below w'.heap.size w' w2) : Below w.heap.size w w2 := h.trans (k.mono h.size)
open Go.RowKit Go.Sort in
theorem rgB {w : World} : ∀ w', Below w.heap.size w w' → ∃ p : Regrown, w' = grow (redrawn w p.d) p.os := fun _ h => regrown_of_below h
theorem J2 {p0 p1 : Prop} (h0 : p0) (h1 : p1) : p0 ∧ p1 := ⟨h0, h1⟩
theorem J3 {p0 p1 p2 : Prop} (h0 : p0) (h1 : p1) (h2 : p2) : p0 ∧ p1 ∧ p2 := ⟨h0, h1, h2⟩
theorem J4 {p0 p1 p2 p3 : Prop} (h0 : p0) (h1 : p1) (h2 : p2) (h3 : p3) : p0 ∧ p1 ∧ p2 ∧ p3 := ⟨h0, h1, h2, h3⟩
section
variable {α β : Type} [DecidableEq α]
def getE (E : List (α × β)) (x : α) : Option β := (E.find? fun p => decide (p.1 = x)).map (·.2)
def delE (E : List (α × β)) (x : α) : List (α × β) := E.filter fun p => decide (p.1 ≠ x)
def putE (E : List (α × β)) (x : α) (v : β) : List (α × β) := (x, v) :: delE E x
def KeysNodup (E : List (α × β)) : Prop := (E.map (·.1)).Nodup
omit [DecidableEq α] in
theorem KeysNodup.perm {E E' : List (α × β)} (h : KeysNodup E) (p : E.Perm E') : KeysNodup E' := (p.map _).nodup_iff.1 h
theorem zIo {E : List (α × β)} {x : α} (h : ∀ p ∈ E, p.1 ≠ x) : getE E x = none := by
 unfold getE;rw [List.find?_eq_none.2 (fun p hp => by simpa using h p hp)];rfl
theorem zCx {E : List (α × β)} {x : α} : getE E x = none ↔ ∀ p ∈ E, p.1 ≠ x := by
 refine ⟨fun h p hp e => ?_, zIo⟩;unfold getE at h;rw [Option.map_eq_none_iff, List.find?_eq_none] at h;exact absurd e (by simpa using h p hp)
omit [DecidableEq α] in
theorem pairs_inj {E : List (α × β)} (hn : KeysNodup E) {p q : α × β} (hp : p ∈ E) (hq : q ∈ E) (h : p.1 = q.1) : p = q := by
 unfold KeysNodup at hn;induction E with
 | nil => simp at hp
 | cons a r ih =>
  simp only [List.map_cons, List.nodup_cons, List.mem_map, not_exists, not_and] at hn;rcases List.mem_cons.1 hp with rfl | hp'
  ·rcases List.mem_cons.1 hq with rfl | hq'
   ·rfl
   ·exact absurd h.symm (hn.1 q hq')
  ·rcases List.mem_cons.1 hq with rfl | hq'
   ·exact absurd h (hn.1 p hp')
   ·exact ih hn.2 hp' hq'
theorem zEy {E : List (α × β)} (hn : KeysNodup E) {x : α} {v : β} (h : (x, v) ∈ E) : getE E x = some v := by
 unfold getE;cases hf : E.find? fun p => decide (p.1 = x) with
 | none =>
  rw [List.find?_eq_none] at hf;exact absurd (hf _ h) (by simp)
 | some q =>
  have h1 := List.mem_of_find?_eq_some hf;have h2 := List.find?_some hf;simp only [decide_eq_true_eq] at h2;rw [pairs_inj hn h1 h h2];rfl
theorem zI0 {E : List (α × β)} {x : α} {v : β} (h : getE E x = some v) : (x, v) ∈ E := by
 unfold getE at h;cases hf : E.find? fun p => decide (p.1 = x) with
 | none => rw [hf] at h; cases h
 | some q =>
  rw [hf] at h;have h1 := List.mem_of_find?_eq_some hf;have h2 := List.find?_some hf;simp only [decide_eq_true_eq] at h2;simp only [Option.map_some, Option.some.injEq] at h;rw [← h2, ← h]; exact h1
theorem getE_iff {E : List (α × β)} (hn : KeysNodup E) {x : α} {v : β} : getE E x = some v ↔ (x, v) ∈ E := ⟨zI0, zEy hn⟩
theorem zC2 {E E' : List (α × β)} (hn : KeysNodup E) (hp : E.Perm E') (x : α) : getE E x = getE E' x := by
 cases h : getE E' x with
 | none => rw [zCx] at h ⊢; exact fun p hp' => h p (hp.mem_iff.1 hp')
 | some v => exact zEy hn (hp.mem_iff.2 (zI0 h))
theorem zD6 {E : List (α × β)} {x : α} (h : ∀ p ∈ E, p.1 ≠ x) : delE E x = E := List.filter_eq_self.2 fun p hp => by simpa using h p hp
theorem delE_perm {E : List (α × β)} (hn : KeysNodup E) {p : α × β} (hp : p ∈ E) : E.Perm (p :: delE E p.1) := by
 unfold KeysNodup at hn;induction E with
 | nil => simp at hp
 | cons a r ih =>
  simp only [List.map_cons, List.nodup_cons, List.mem_map, not_exists, not_and] at hn;rcases List.mem_cons.1 hp with rfl | hp'
  ·have : delE (p :: r) p.1 = r := by
     unfold delE;rw [List.filter_cons_of_neg (by simp)];exact List.filter_eq_self.2 fun q hq => by simpa using hn.1 q hq
   rw [this]
  ·have hne : a.1 ≠ p.1 := fun e => hn.1 p hp' e.symm;have : delE (a :: r) p.1 = a :: delE r p.1 := by
    unfold delE;rw [List.filter_cons_of_pos (by simpa using hne)]
   rw [this];exact ((ih hn.2 hp').cons a).trans (List.Perm.swap _ _ _)
theorem zC9 {E : List (α × β)} (hn : KeysNodup E) (x : α) : KeysNodup (delE E x) := by
 unfold KeysNodup delE;exact (List.filter_sublist.map _).nodup hn
theorem zBn {E : List (α × β)} (hn : KeysNodup E) (x : α) (v : β) : KeysNodup (putE E x v) := by
 unfold KeysNodup putE;simp only [List.map_cons, List.nodup_cons];refine ⟨?_, zC9 hn x⟩;simp [delE]
structure KV (P : Program) (k e t : TypeId) (eK : α → Value) (ok : α → Prop) : Prop where
 keyed : Keyed P k
 ty : P.underlying t = some (.map k e)
 key : ∀ x, ok x → ∃ l, keyOf P k (eK x) = some l
 inj : ∀ {x y}, eK x = eK y → x = y
def HoldsMap (eK : α → Value) (eV : β → Value) (ok : α → Prop) (w : World) (b : Nat) (E : List (α × β)) : Prop :=
 ∃ es clock, w.heap[b]? = some (.map es clock) ∧ Stamped es clock ∧ KeysNodup E ∧ (∀ p ∈ E, ok p.1) ∧ (es.toList.map fun x => (x.key, x.val)).Perm (E.map fun p => (eK p.1, eV p.2))
variable {P : Program} {k e t : TypeId} {eK : α → Value} {eV : β → Value} {ok : α → Prop} {w : World} {b : Nat} {E : List (α × β)}
omit [DecidableEq α] in
theorem HoldsMap.lt (h : HoldsMap eK eV ok w b E) : b < w.heap.size := by
 obtain ⟨es, clock, hb, _⟩ := h;exact (Array.getElem?_eq_some_iff.1 hb).1
omit [DecidableEq α] in
theorem HoldsMap.nodup (h : HoldsMap eK eV ok w b E) : KeysNodup E := h.elim fun _ h => h.elim fun _ h => h.2.2.1
omit [DecidableEq α] in
theorem HoldsMap.oks (h : HoldsMap eK eV ok w b E) : ∀ p ∈ E, ok p.1 := h.elim fun _ h => h.elim fun _ h => h.2.2.2.1
omit [DecidableEq α] in
theorem HoldsMap.perm (h : HoldsMap eK eV ok w b E) {E' : List (α × β)} (hp : E.Perm E') : HoldsMap eK eV ok w b E' := by
 obtain ⟨es, clock, hb, hs, hn, ho, hm⟩ := h;exact ⟨es, clock, hb, hs, hn.perm hp, fun p h => ho p (hp.mem_iff.2 h), hm.trans (hp.map _)⟩
omit [DecidableEq α] in
theorem HoldsMap.kept {w' : World} {row : Option Nat} (h : HoldsMap eK eV ok w b E) (hg : w.grownBy w' row) (hne : some b ≠ row) : HoldsMap eK eV ok w' b E := by
 have hlt := h.lt;obtain ⟨es, clock, hb, r⟩ := h;exact ⟨es, clock, (hg.block b hlt hne).trans hb, r⟩
omit [DecidableEq α] in
theorem HoldsMap.ext {w' : World} {n : Nat} (h : HoldsMap eK eV ok w b E) (hg : Below n w w') (hn : n = w.heap.size) : HoldsMap eK eV ok w' b E := by
 have hlt := h.lt;obtain ⟨es, clock, hb, r⟩ := h;exact ⟨es, clock, (hg.block b (hn ▸ hlt)).trans hb, r⟩
omit [DecidableEq α] in
theorem HoldsMap.ee {w' : World} (h : HoldsMap eK eV ok w b E) (hg : Below w.heap.size w w') : HoldsMap eK eV ok w' b E := h.ext hg rfl
omit [DecidableEq α] in
theorem HoldsMap.alloc (h : HoldsMap eK eV ok w b E) (o : Obj) : HoldsMap eK eV ok (w.alloc o) b E := h.kept (World.grownBy_alloc w o none) (by simp)
omit [DecidableEq α] in
theorem HoldsMap.made (w : World) : HoldsMap eK eV ok (w.alloc (.map #[] 0)) w.heap.size ([] : List (α × β)) :=
 ⟨#[], 0, (MapKept.heap_alloc w _).1, stamped_empty 0, by simp [KeysNodup], by simp, by simp⟩
omit [DecidableEq α] in
theorem HoldsMap.set_ne (h : HoldsMap eK eV ok w b E) (a : Addr) (v : Value) (hne : a.block ≠ b) : HoldsMap eK eV ok (w.setCell a v) b E := by
 obtain ⟨es, clock, hb, r⟩ := h;refine ⟨es, clock, ?_, r⟩;simp only [World.setCell, Array.getElem?_modify];rw [if_neg hne, hb]
omit [DecidableEq α] in
theorem zIw {es : Array MapEntry} (hp : (es.toList.map fun x => (x.key, x.val)).Perm (E.map fun p => (eK p.1, eV p.2))) :
    ∀ x ∈ es.toList, ∃ p ∈ E, x.key = eK p.1 ∧ x.val = eV p.2 := fun x hx => by
 have h1 := hp.mem_iff.1 (List.mem_map.2 ⟨x, hx, rfl⟩);obtain ⟨p, hp1, hp2⟩ := List.mem_map.1 h1;simp only [Prod.mk.injEq] at hp2;exact ⟨p, hp1, hp2.1.symm, hp2.2.symm⟩
omit [DecidableEq α] in
theorem zFm (V : KV P k e t eK ok) {es : Array MapEntry} (ho : ∀ p ∈ E, ok p.1) (hp : (es.toList.map fun x => (x.key, x.val)).Perm (E.map fun p => (eK p.1, eV p.2))) :
    ∀ x ∈ es.toList, ∃ l, keyOf P k x.key = some l := fun x hx => by
 obtain ⟨p, h1, h2, _⟩ := zIw hp x hx;obtain ⟨l, hl⟩ := V.key p.1 (ho p h1);exact ⟨l, by rw [h2]; exact hl⟩
omit [DecidableEq α] in
theorem zHw {es : Array MapEntry} (hp : (es.toList.map fun x => (x.key, x.val)).Perm (E.map fun p => (eK p.1, eV p.2))) {x : α} (h : ∀ y ∈ es.toList, y.key ≠ eK x) : ∀ p ∈ E, p.1 ≠ x := fun p hp' e => by
 have h1 := hp.mem_iff.2 (List.mem_map.2 ⟨p, hp', rfl⟩);obtain ⟨y, hy, he⟩ := List.mem_map.1 h1;simp only [Prod.mk.injEq] at he;exact h y hy (by rw [he.1, e])
theorem zHf {γ : Type} : ∀ (l : List γ) (j : Nat) (h : j < l.length), l.Perm (l[j] :: l.eraseIdx j)
 | a :: r, 0, _ => List.Perm.refl _
 | a :: r, j + 1, h => ((zHf r j (by simpa using h)).cons a).trans (List.Perm.swap _ _ _)
theorem zGt (V : KV P k e t eK ok) {es : Array MapEntry} (hn : KeysNodup E) (hp : (es.toList.map fun x => (x.key, x.val)).Perm (E.map fun p => (eK p.1, eV p.2))) {x : α} {j : Nat} {e0 : MapEntry} (h2 : es.toList[j]? = some e0) (h3 : e0.key = eK x) :
    ∃ v, (x, v) ∈ E ∧ e0.val = eV v ∧ getE E x = some v ∧ ((es.toList.map fun x => (x.key, x.val)).eraseIdx j).Perm ((delE E x).map fun p => (eK p.1, eV p.2)) := by
 have hm0 : e0 ∈ es.toList := List.mem_of_getElem? h2;obtain ⟨p, hp1, hp2, hp3⟩ := zIw hp e0 hm0;obtain ⟨y, v⟩ := p;obtain rfl : y = x := V.inj (by rw [← hp2, h3]);refine ⟨v, hp1, hp3, zEy hn hp1, ?_⟩;have a1 := (delE_perm hn hp1).map fun p : α × β => (eK p.1, eV p.2);have a2 : (es.toList.map fun x => (x.key, x.val)).Perm ((e0.key, e0.val) :: (es.toList.map fun x => (x.key, x.val)).eraseIdx j) := by
  have hj : j < (es.toList.map fun x => (x.key, x.val)).length := by simpa using (List.getElem?_eq_some_iff.1 h2).1
  have hg : (es.toList.map fun x => (x.key, x.val))[j] = (e0.key, e0.val) := by
   have := (List.getElem?_eq_some_iff.1 h2).2;simp only [List.getElem_map, this]
  rw [← hg];exact zHf _ _ hj
 have a3 := a2.symm.trans (hp.trans a1);rw [List.map_cons, hp2, hp3] at a3;exact a3.cons_inv
theorem HoldsMap.look (V : KV P k e t eK ok) (h : HoldsMap eK eV ok w b E) {z : Value} (hz : (zeroValue e).run P w = .ok z w) {x : α} (hx : ok x) :
    (Instr.lookup t (.map (some b)) (eK x) true).run P w = .ok (match getE E x with | some v => .tuple #[eV v, .bool true] | none => .tuple #[z, .bool false]) w := by
 obtain ⟨es, clock, hb, hs, hn, ho, hp⟩ := h;obtain ⟨l, hl⟩ := V.key x hx;rcases V.keyed.find w hl es.toList (zFm V ho hp) with ⟨h1, h2⟩ | ⟨j, e0, h1, h2, h3⟩
 ·rw [zIo (zHw hp h2)];simp [Instr.lookup, run_underlying V.ty, MapKept.run_getObj_map hb, V.keyed.check w _ hl, h1, hz, Result.andThen]
 ·obtain ⟨v, _, hv, hg, _⟩ := zGt V hn hp h2 h3;rw [hg];simp [Instr.lookup, run_underlying V.ty, MapKept.run_getObj_map hb, V.keyed.check w _ hl, h1, Result.andThen, hv]
theorem HoldsMap.put (V : KV P k e t eK ok) (h : HoldsMap eK eV ok w b E) {x : α} (hx : ok x) (v : β) :
    ∃ w', (Instr.mapUpdate t (.map (some b)) (eK x) (eV v)).run P w = .ok () w' ∧ HoldsMap eK eV ok w' b (putE E x v) ∧ w.grownBy w' (some b) ∧ w'.heap.size = w.heap.size := by
 obtain ⟨es, clock, hb, hs, hn, ho, hp⟩ := h;obtain ⟨l, hl⟩ := V.key x hx;have hgr : ∀ o', w.grownBy (setBlock w b o') (some b) := fun o' => ⟨rfl, rfl, rfl, by simp [setBlock], fun i _ hi => heap_setBlock_other hb _ (fun e => hi (by rw [e]))⟩;have hok : ∀ p ∈ putE E x v, ok p.1 := fun p hp' => by
  rcases List.mem_cons.1 hp' with rfl | h'
  ·exact hx
  ·exact ho p (List.mem_filter.1 h').1
 rcases V.keyed.find w hl es.toList (zFm V ho hp) with ⟨h1, h2⟩ | ⟨j, e0, h1, h2, h3⟩
 ·refine ⟨setBlock w b (.map (es.push ⟨eK x, eV v, clock⟩) (clock + 1)), ?_, ⟨_, _, heap_setBlock_same hb _, stamped_push hs h2, zBn hn x v, hok, ?_⟩, hgr _, by simp [setBlock]⟩
  ·simp [Instr.mapUpdate, run_underlying V.ty, MapKept.run_getObj_map hb, V.keyed.check w false hl, h1, MapKept.run_setObj_map _ hb, Result.andThen, setBlock]
  ·unfold putE;rw [zD6 (zHw hp h2), Array.toList_push, List.map_append, List.map_cons];exact (List.perm_append_comm.trans ((hp.cons _)))
 ·have hj : es[j]? = some e0 := by simpa using h2
  have hjl : j < es.toList.length := (List.getElem?_eq_some_iff.1 h2).1;have hlist : (es.modify j (fun e' => { e' with key := eK x, val := eV v })).toList = es.toList.set j { e0 with key := eK x, val := eV v } := by rw [Array.toList_modify, modify_eq_set _ _ _ _ h2]
  refine ⟨setBlock w b (.map (es.modify j (fun e' => { e' with key := eK x, val := eV v })) clock), ?_, ⟨_, _, heap_setBlock_same hb _, stamped_modify hs _ _ (fun _ _ => rfl) (fun e' _ he' => by rw [hj] at he'; cases he'; exact h3.symm), zBn hn x v, hok, ?_⟩, hgr _, by simp [setBlock]⟩
  ·simp [Instr.mapUpdate, run_underlying V.ty, MapKept.run_getObj_map hb, V.keyed.check w false hl, h1, hj, h3, V.keyed.stays w hl, MapKept.run_setObj_map _ hb, Result.andThen, setBlock]
  ·obtain ⟨v0, _, _, _, hpe⟩ := zGt V hn hp h2 h3;rw [hlist, List.map_set];unfold putE;rw [List.map_cons];exact (set_perm _ _ (by simpa using hjl) _).trans (hpe.cons _)
theorem HoldsMap.del {ty : TypeId} (V : KV P k e t eK ok) (h : HoldsMap eK eV ok w b E) {x : α} (hx : ok x) :
    ∃ w', (Builtin.delete_ #[t, k] ty #[.map (some b), eK x]).run P w = .ok (.tuple #[]) w' ∧ HoldsMap eK eV ok w' b (delE E x) ∧ w.grownBy w' (some b) ∧ w'.heap.size = w.heap.size := by
 obtain ⟨es, clock, hb, hs, hn, ho, hp⟩ := h;obtain ⟨l, hl⟩ := V.key x hx;have hgr : ∀ o', w.grownBy (setBlock w b o') (some b) := fun o' => ⟨rfl, rfl, rfl, by simp [setBlock], fun i _ hi => heap_setBlock_other hb _ (fun e => hi (by rw [e]))⟩;have hok : ∀ p ∈ delE E x, ok p.1 := fun p hp' => ho p (List.mem_filter.1 hp').1;rcases V.keyed.find w hl es.toList (zFm V ho hp) with ⟨h1, h2⟩ | ⟨j, e0, h1, h2, h3⟩
 ·refine ⟨setBlock w b (.map es clock), ?_, ⟨_, _, heap_setBlock_same hb _, hs, zC9 hn x, hok, ?_⟩, hgr _, by simp [setBlock]⟩
  ·simp [Builtin.delete_, run_underlying V.ty, MapKept.run_getObj_map hb, V.keyed.check w _ hl, h1, MapKept.run_setObj_map _ hb, Result.andThen, setBlock]
  ·rw [zD6 (zHw hp h2)]; exact hp
 ·have hjl : j < es.toList.length := (List.getElem?_eq_some_iff.1 h2).1;have hjs : j < es.size := by simpa using hjl
  have hsub : (es.eraseIdxIfInBounds j).toList = es.toList.eraseIdx j := by
   unfold Array.eraseIdxIfInBounds;rw [dif_pos hjs];simp
  obtain ⟨v0, _, _, _, hpe⟩ := zGt V hn hp h2 h3;refine ⟨setBlock w b (.map (es.eraseIdxIfInBounds j) clock), ?_, ⟨_, _, heap_setBlock_same hb _, stamped_erase hs j, zC9 hn x, hok, ?_⟩, hgr _, by simp [setBlock]⟩
  ·simp [Builtin.delete_, run_underlying V.ty, MapKept.run_getObj_map hb, V.keyed.check w _ hl, h1, MapKept.run_setObj_map _ hb, Result.andThen, setBlock]
  ·rw [hsub, map_eraseIdx]; exact hpe
omit [DecidableEq α] in
theorem HoldsMap.len {ty : TypeId} (V : KV P k e t eK ok) (h : HoldsMap eK eV ok w b E) : (Builtin.len_ #[t] ty #[.map (some b)]).run P w = .ok (.int .i64 E.length) w := by
 obtain ⟨es, clock, hb, hs, hn, ho, hp⟩ := h;have hl : es.size = E.length := by simpa using hp.length_eq
 rw [← hl];simp [Builtin.len_, run_underlying V.ty, MapKept.run_getObj_map hb, Result.andThen];rfl
/-! ### 'for k, v := range m' under way: R is still to come -/
def Ranging (eK : α → Value) (eV : β → Value) (ok : α → Prop) (w : World) (b r : Nat) (E R : List (α × β)) : Prop :=
 ∃ es clock since seen c0, w.heap[b]? = some (.map es clock) ∧ Stamped es clock ∧ KeysNodup E ∧ (∀ p ∈ E, ok p.1) ∧ (es.toList.map fun x => (x.key, x.val)).Perm (E.map fun p => (eK p.1, eV p.2)) ∧
  w.heap[r]? = some (.mapIter (some b) since seen c0) ∧ (∀ x ∈ es.toList, x.born < since) ∧ ((leftOf es seen).toList.map fun x => (x.key, x.val)).Perm (R.map fun p => (eK p.1, eV p.2)) ∧ (∀ p ∈ R, p ∈ E) ∧ since ≤ c0 ∧ since ≤ clock
omit [DecidableEq α] in
theorem Ranging.holds {r : Nat} {R : List (α × β)} (h : Ranging eK eV ok w b r E R) : HoldsMap eK eV ok w b E := by
 obtain ⟨es, clock, _, _, _, hb, hs, hn, ho, hp, _⟩ := h;exact ⟨es, clock, hb, hs, hn, ho, hp⟩
omit [DecidableEq α] in
theorem Ranging.lt {r : Nat} {R : List (α × β)} (h : Ranging eK eV ok w b r E R) : r < w.heap.size := by
 obtain ⟨es, clock, _, _, _, _, _, _, _, _, hr, _⟩ := h;exact (Array.getElem?_eq_some_iff.1 hr).1
omit [DecidableEq α] in
theorem Ranging.sub {r : Nat} {R : List (α × β)} (h : Ranging eK eV ok w b r E R) : ∀ p ∈ R, p ∈ E := by
 obtain ⟨_, _, _, _, _, _, _, _, _, _, _, _, _, hs, _⟩ := h;exact hs
omit [DecidableEq α] in
theorem Ranging.ne {r : Nat} {R : List (α × β)} (h : Ranging eK eV ok w b r E R) : r ≠ b := by
 obtain ⟨es, clock, _, _, _, hb, _, _, _, _, hr, _⟩ := h;intro e1;rw [e1, hb] at hr;cases hr
omit [DecidableEq α] in
theorem Ranging.kept {r : Nat} {R : List (α × β)} {w' : World} {row : Option Nat} (h : Ranging eK eV ok w b r E R) (hg : w.grownBy w' row) (h1 : some b ≠ row) (h2 : some r ≠ row) : Ranging eK eV ok w' b r E R := by
 have l1 := h.holds.lt;have l2 := h.lt;obtain ⟨es, clock, since, seen, c0, hb, hs, hn, ho, hp, hr, rest⟩ := h;exact ⟨es, clock, since, seen, c0, (hg.block b l1 h1).trans hb, hs, hn, ho, hp, (hg.block r l2 h2).trans hr, rest⟩
omit [DecidableEq α] in
theorem Ranging.ext {r : Nat} {R : List (α × β)} {w' : World} {n : Nat} (h : Ranging eK eV ok w b r E R) (hg : Below n w w') (hn : n = w.heap.size) : Ranging eK eV ok w' b r E R :=
 h.kept (row := none) ⟨hg.os, hg.tape, hg.output, hg.size, fun i hi _ => hg.block i (hn ▸ hi)⟩ (by simp) (by simp)
omit [DecidableEq α] in
theorem Ranging.ee {r : Nat} {R : List (α × β)} {w' : World} (h : Ranging eK eV ok w b r E R) (hg : Below w.heap.size w w') : Ranging eK eV ok w' b r E R := h.ext hg rfl
omit [DecidableEq α] in
theorem HoldsMap.range (V : KV P k e t eK ok) (h : HoldsMap eK eV ok w b E) :
    ∃ w', (Instr.range t (.map (some b))).run P w = .ok (.pointer (some ⟨w.heap.size, 0, none⟩)) w' ∧ Ranging eK eV ok w' b w.heap.size E E ∧ Below w.heap.size w w' ∧ w'.heap.size = w.heap.size + 1 := by
 have hlt := h.lt;obtain ⟨es, clock, hb, hs, hn, ho, hp⟩ := h;refine ⟨_, run_range_map w t k e b es clock V.ty hb, ⟨es, clock, clock, #[], clock, ((MapKept.heap_alloc w _).2 b hlt).trans hb, hs, hn, ho, hp, (MapKept.heap_alloc w _).1, hs.1, ?_, fun _ h => h, Nat.le_refl _, Nat.le_refl _⟩, ⟨rfl, rfl, rfl, by simp, fun i hi => (MapKept.heap_alloc w _).2 i hi⟩, by simp⟩;have : leftOf es #[] = es := by unfold leftOf; exact Array.filter_eq_self.2 (fun x _ => by simp)
 rw [this]; exact hp
omit [DecidableEq α] in
theorem Ranging.next {r : Nat} {R : List (α × β)} (h : Ranging eK eV ok w b r E R) (ty : TypeId) :
    (R = [] ∧ (Instr.next (.pointer (some ⟨r, 0, none⟩)) false ty).run P w = .ok (.tuple #[.bool false]) w) ∨
    ∃ p R' w', R.Perm (p :: R') ∧ (Instr.next (.pointer (some ⟨r, 0, none⟩)) false ty).run P w = .ok (.tuple #[.bool true, eK p.1, eV p.2]) w' ∧ Ranging eK eV ok w' b r E R' ∧
     w.grownBy w' (some r) ∧ w'.heap.size = w.heap.size ∧ (Instr.entry (.pointer (some ⟨r, 0, none⟩))).run P w' = .ok (.tuple #[eK p.1, eV p.2]) w' := by
 have hne := h.ne;obtain ⟨es, clock, since, seen, c0, hb, hs, hn, ho, hp, hr, hold, hleft, hsub, hsc, hsk⟩ := h;rcases run_next_at (P := P) w ty r b since c0 seen es clock hr hb hold hsc with ⟨h0, hrun⟩ | ⟨x, hx, w1, hal, hrun⟩
 ·refine Or.inl ⟨?_, hrun⟩;have := hleft.length_eq;rw [List.length_map, Array.length_toList, h0, List.length_map] at this;exact List.eq_nil_of_length_eq_zero this.symm
 ·obtain ⟨hem, hes⟩ := mem_left hx;have hst := (stamped_iff es clock).1 hs;have hm := hleft.mem_iff.1 (List.mem_map.2 ⟨x, hx, rfl⟩);obtain ⟨p, hpR, hpe⟩ := List.mem_map.1 hm;simp only [Prod.mk.injEq] at hpe;obtain ⟨R1, R2, rfl⟩ := List.append_of_mem hpR;have hr1 : w1.heap[r]? = some (.mapIter (some b) since seen c0) := by rcases hal with rfl | rfl <;> exact hr
  have hb1 : w1.heap[b]? = some (.map es clock) := by rcases hal with rfl | rfl <;> exact hb
  have hset := heap_set (o' := .mapIter (some b) since (seen.push x.born) clock) hr1;have hb' : (setBlock w1 r (.mapIter (some b) since (seen.push x.born) clock)).heap[b]? = some (.map es clock) := (hset.2 b (fun e1 => hne e1.symm)).trans hb1;have hbn : (es.toList.map (·.born)).Nodup := hst.2.1;have hl2 : (leftOf es seen).toList.Perm (x :: (leftOf es (seen.push x.born)).toList) := by
   have e1 : (leftOf es seen).toList = es.toList.filter (fun y => !seen.contains y.born) := by unfold leftOf; rw [Array.toList_filter]
   have e2 : (leftOf es (seen.push x.born)).toList = es.toList.filter (fun y => !seen.contains y.born && !(y.born == x.born)) := by
    unfold leftOf; rw [Array.toList_filter];congr 1; funext y; rw [contains_push]; simp
   rw [e1, e2];have hgen : ∀ l : List MapEntry, (l.map (·.born)).Nodup → x ∈ l → (l.filter (fun y => !seen.contains y.born)).Perm (x :: l.filter (fun y => !seen.contains y.born && !(y.born == x.born))) := by
    intro l;induction l with
    | nil => intro _ h; simp at h
    | cons a r ih =>
     intro hnn hin;simp only [List.map_cons, List.nodup_cons, List.mem_map, not_exists, not_and] at hnn;rcases List.mem_cons.1 hin with rfl | hin'
     ·rw [List.filter_cons_of_pos (by simpa using hes), List.filter_cons_of_neg (by simp)];rw [show r.filter (fun y => !seen.contains y.born && !(y.born == x.born)) = r.filter (fun y => !seen.contains y.born) from ?_];refine List.filter_congr fun y hy => ?_;have : y.born ≠ x.born := hnn.1 y hy;simp [this]
     ·have hax : a.born ≠ x.born := fun e1 => hnn.1 x hin' e1.symm;cases hc : seen.contains a.born
      ·rw [List.filter_cons_of_pos (by simpa using hc), List.filter_cons_of_pos (by simp [hax]; simpa using hc)];exact ((ih hnn.2 hin').cons a).trans (List.Perm.swap _ _ _)
      ·rw [List.filter_cons_of_neg (by simpa using hc), List.filter_cons_of_neg (by simp; simpa using fun h => absurd hc (by simpa using h))];exact ih hnn.2 hin'
   exact hgen _ hbn hem
  have hperm : (R1 ++ p :: R2).Perm (p :: (R1 ++ R2)) := List.perm_middle;refine Or.inr ⟨p, R1 ++ R2, _, hperm, by rw [hpe.1, hpe.2]; exact hrun, ⟨es, clock, since, seen.push x.born, clock, hb', hs, hn, ho, hp, hset.1, hold, ?_, fun q hq => hsub q (hperm.mem_iff.2 (List.mem_cons_of_mem _ hq)), hsk, hsk⟩, ?_, ?_, ?_⟩
  ·have a1 := (hl2.map fun x => (x.key, x.val)).symm.trans (hleft.trans (hperm.map _));simp only [List.map_cons] at a1;rw [← hpe.1, ← hpe.2] at a1;exact a1.cons_inv
  ·rcases hal with rfl | rfl <;> exact ⟨rfl, rfl, rfl, by simp [setBlock], fun i _ hi => hset.2 i (fun e1 => hi (by rw [e1]))⟩
  ·rcases hal with rfl | rfl <;> simp [setBlock]
  ·rw [hpe.1, hpe.2]; exact run_entry_at _ r b since seen es clock x hset.1 hb' hem hst.2.1
end
/-! ### at the operations -/
section
variable {α β : Type} [DecidableEq α] {P : Program} {k e t : TypeId} {eK : α → Value} {eV : β → Value} {ok : α → Prop} {b : Nat} {E : List (α × β)} (w : World) {ops : Array Oper} {rest : List Oper} {o : Oper} {a : Act} {Q : Exit → Act → World → Prop}
theorem zBd (hg : o.guard = none) (m x v : Operand) (hop : o.op = Op.mapUpdate t m x v) (V : KV P k e t eK ok)
    (hm : a.eval m = .map (some b)) (h : HoldsMap eK eV ok w b E) (key : α) (val : β) (hx : a.eval x = eK key) (hv : a.eval v = eV val) (hk : ok key)
    (hK : ∀ w', HoldsMap eK eV ok w' b (putE E key val) → w.grownBy w' (some b) → w'.heap.size = w.heap.size → wpList P ops Q rest (a.put o.dst undef) w') : wpList P ops Q (o :: rest) a w := by
 refine wpList_plain hg fun K' hK' => ?_;obtain ⟨w', hrun, r1, r2, r3⟩ := h.put V hk val;unfold Oper.wp;simp [execOp, hop, hm, hx, hv, hrun, Result.andThen];exact hK' _ _ (hK w' r1 r2 r3)
theorem zBt (hg : o.guard = none) (m x : Operand) (hop : o.op = Op.call { callee := Callee.builtin Builtin.delete, args := #[m, x], argTypes := #[t, k] }) (V : KV P k e t eK ok)
    (hm : a.eval m = .map (some b)) (h : HoldsMap eK eV ok w b E) (key : α) (hx : a.eval x = eK key) (hk : ok key)
    (hK : ∀ w', HoldsMap eK eV ok w' b (delE E key) → w.grownBy w' (some b) → w'.heap.size = w.heap.size → wpList P ops Q rest (a.put o.dst (.tuple #[])) w') : wpList P ops Q (o :: rest) a w := by
 refine wpList_plain hg fun K' hK' => ?_;obtain ⟨w', hrun, r1, r2, r3⟩ := h.del (ty := o.type) V hk;unfold Oper.wp;simp [execOp, hop, resolve, invoke, builtin, hm, hx, hrun, Result.andThen];exact hK' _ _ (hK w' r1 r2 r3)
omit [DecidableEq α] in
theorem zFt (hg : o.guard = none) (m : Operand) (hop : o.op = Op.call { callee := Callee.builtin Builtin.len, args := #[m], argTypes := #[t] }) (V : KV P k e t eK ok)
    (hm : a.eval m = .map (some b)) (h : HoldsMap eK eV ok w b E) (hK : wpList P ops Q rest (a.put o.dst (.int .i64 E.length)) w) : wpList P ops Q (o :: rest) a w := by
 refine wpList_plain hg fun K' hK' => ?_;unfold Oper.wp;simp [execOp, hop, resolve, invoke, builtin, hm, h.len (ty := o.type) V, Result.andThen];exact hK' _ _ hK
omit [DecidableEq α] in
theorem zB7 (hg : o.guard = none) (m : Operand) (hop : o.op = Op.range t m) (V : KV P k e t eK ok) (hm : a.eval m = .map (some b)) (h : HoldsMap eK eV ok w b E)
    (hK : ∀ w', Ranging eK eV ok w' b w.heap.size E E → Below w.heap.size w w' → w'.heap.size = w.heap.size + 1 → wpList P ops Q rest (a.put o.dst (.pointer (some ⟨w.heap.size, 0, none⟩))) w') : wpList P ops Q (o :: rest) a w := by
 refine wpList_plain hg fun K' hK' => ?_;obtain ⟨w', hrun, r1, r2, r3⟩ := h.range V;unfold Oper.wp;simp [execOp, hop, hm, hrun, Result.andThen];exact hK' _ _ (hK w' r1 r2 r3)
omit [DecidableEq α] in
theorem zBe {r : Nat} {R : List (α × β)} (hg : o.guard = none) (it : Operand) (hop : o.op = Op.next it false) (hit : a.eval it = .pointer (some ⟨r, 0, none⟩)) (h : Ranging eK eV ok w b r E R)
    (hDone : R = [] → wpList P ops Q rest (a.put o.dst (.tuple #[.bool false])) w)
    (hMore : ∀ p R' w', R.Perm (p :: R') → Ranging eK eV ok w' b r E R' → w.grownBy w' (some r) → w'.heap.size = w.heap.size → (Instr.entry (.pointer (some ⟨r, 0, none⟩))).run P w' = .ok (.tuple #[eK p.1, eV p.2]) w' →
     wpList P ops Q rest (a.put o.dst (.tuple #[.bool true, eK p.1, eV p.2])) w') : wpList P ops Q (o :: rest) a w := by
 refine wpList_plain hg fun K' hK' => ?_;unfold Oper.wp;rcases h.next (P := P) o.type with ⟨h0, hrun⟩ | ⟨p, R', w', hp, hrun, hrg, hgr, hsz, hen⟩
 ·simp [execOp, hop, hit, hrun, Result.andThen];exact hK' _ _ (hDone h0)
 ·simp [execOp, hop, hit, hrun, Result.andThen];exact hK' _ _ (hMore p R' w' hp hrg hgr hsz hen)
end
end Go.Proofs.YtjkfakaehjmnbaaGreat
namespace Go.Proofs.YtjkfakaehjmnbaaGreat
open Go.RowKit
def M : Int := 18446744073709551616
def V (h l : Int) : Int := h * 18446744073709551616 + l
def fits (n : Int) : Bool := decide (-170141183460469231731687303715884105728 ≤ n) && decide (n ≤ 170141183460469231731687303715884105727)
def cH (n : Int) : Int := if fits n = true then n / 18446744073709551616 else 0
def cL (n : Int) : Int := if fits n = true then n % 18446744073709551616 else 0
def sgn (n : Int) : Int := if n < 0 then -1 else if 0 < n then 1 else 0
def lo (x y : Int) : Int := (x + y) % 18446744073709551616
def cy (x y : Int) : Int := (x + y) / 18446744073709551616
structure Ok (h l : Int) : Prop where
 h0 : -9223372036854775808 ≤ h
 h1 : h ≤ 9223372036854775807
 l0 : 0 ≤ l
 l1 : l ≤ 18446744073709551615
theorem zAl {n : Int} : fits n = true ↔ -170141183460469231731687303715884105728 ≤ n ∧ n ≤ 170141183460469231731687303715884105727 := by
 simp [fits]
theorem ok_c (n : Int) : Ok (cH n) (cL n) := by
 unfold cH cL;split
 ·rename_i h; rw [zAl] at h; exact ⟨by omega, by omega, by omega, by omega⟩
 ·exact ⟨by omega, by omega, by omega, by omega⟩
theorem V_c {n : Int} (h : fits n = true) : V (cH n) (cL n) = n := by
 unfold cH cL V; rw [if_pos h, if_pos h]; omega
theorem w64 (n : Int) : wrap64 n = (n + 9223372036854775808) % 18446744073709551616 - 9223372036854775808 := by
 simp only [wrap64]
theorem sg_i64 : IntKind.i64.signed = true := rfl
theorem sg_u64 : IntKind.u64.signed = false := rfl
theorem bv_not (n : Int) : BitVec.ofInt 64 (-1) ^^^ BitVec.ofInt 64 n = BitVec.ofInt 64 (-1 - n) := by
 have h1 : BitVec.ofInt 64 (-1) = BitVec.allOnes 64 := by decide
 have h3 : BitVec.ofInt 64 (-n) = ~~~BitVec.ofInt 64 n + 1#64 := by rw [BitVec.ofInt_neg, BitVec.neg_eq_not_add]
 have h2 : ∀ x : BitVec 64, BitVec.allOnes 64 + (x + 1#64) = x := fun x => by
  rw [BitVec.add_comm x, ← BitVec.add_assoc];have : BitVec.allOnes 64 + 1#64 = 0#64 := by decide
  rw [this, BitVec.zero_add]
 rw [Int.sub_eq_add_neg, BitVec.ofInt_add, h3, h1, BitVec.allOnes_xor, h2]
theorem xor_i64 (n : Int) (h0 : -9223372036854775808 ≤ n) (h1 : n ≤ 9223372036854775807) : bits .xor .i64 (-1) n = -1 - n := by
 show IntKind.i64.wrap ((BitVec.ofInt 64 (-1) ^^^ BitVec.ofInt 64 n).toNat : Int) = _;rw [bv_not, BitVec.toNat_ofInt, IntKind.wrap_i64];omega
theorem xor_u64 (n : Int) (h0 : 0 ≤ n) (h1 : n ≤ 18446744073709551615) : bits .xor .u64 IntKind.u64.max n = 18446744073709551615 - n := by
 show IntKind.u64.wrap ((BitVec.ofInt 64 (IntKind.u64.max) ^^^ BitVec.ofInt 64 n).toNat : Int) = _;have : BitVec.ofInt 64 IntKind.u64.max = BitVec.ofInt 64 (-1) := by decide
 rw [this, bv_not, BitVec.toNat_ofInt, IntKind.wrap_u64];omega
/- The document's own answer reckons modulo 2^128. -/
def mH (n : Int) : Int := wrap64 (n / 18446744073709551616)
def mL (n : Int) : Int := n % 18446744073709551616
theorem ok_m (n : Int) : Ok (mH n) (mL n) := by
 unfold mH mL wrap64; exact ⟨by omega, by omega, by omega, by omega⟩
theorem V_m (n : Int) : ∃ k : Int, V (mH n) (mL n) = n + k * 340282366920938463463374607431768211456 := by
 unfold mH mL wrap64 V;exact ⟨-((n / 18446744073709551616 + 9223372036854775808) / 18446744073709551616), by omega⟩
theorem m_add (n k : Int) : mH (n + k * 340282366920938463463374607431768211456) = mH n ∧ mL (n + k * 340282366920938463463374607431768211456) = mL n := by
 unfold mH mL wrap64; omega
theorem m_c {n : Int} (h : fits n = true) : mH n = cH n ∧ mL n = cL n := by
 unfold cH cL; rw [if_pos h, if_pos h]; rw [zAl] at h; unfold mH mL wrap64; omega
theorem m_cong {a b : Int} (k : Int) (e : a = b + k * 340282366920938463463374607431768211456) : mH a = mH b ∧ mL a = mL b := by
 subst e; exact m_add b k
theorem m_sum {h1 l1 h2 l2 : Int} (k : Ok h1 l1) (q : Ok h2 l2) : mL (V h1 l1 + V h2 l2) = lo l1 l2 ∧ mH (V h1 l1 + V h2 l2) = wrap64 (wrap64 (h1 + h2) + cy l1 l2) := by
 obtain ⟨a1, a2, a3, a4⟩ := k; obtain ⟨b1, b2, b3, b4⟩ := q;unfold mL mH lo cy wrap64 V; omega
theorem mul_bound (a b : Int) (a0 : -9223372036854775808 ≤ a) (a1 : a ≤ 9223372036854775807) (b0 : -9223372036854775808 ≤ b) (b1 : b ≤ 9223372036854775807) :
    -85070591730234615865843651857942052864 ≤ a * b ∧ a * b ≤ 85070591730234615865843651857942052864 := by
 have h1 : (a.natAbs : Int) * b.natAbs ≤ 9223372036854775808 * 9223372036854775808 := by
  have : a.natAbs * b.natAbs ≤ 9223372036854775808 * 9223372036854775808 := Nat.mul_le_mul (by omega) (by omega);have e : (a.natAbs : Int) * b.natAbs = ((a.natAbs * b.natAbs : Nat) : Int) := (Int.natCast_mul _ _).symm;rw [e];generalize a.natAbs * b.natAbs = p at *
  omega
 have h2 : (a * b).natAbs = a.natAbs * b.natAbs := Int.natAbs_mul a b;have h3 : ((a * b).natAbs : Int) = (a.natAbs : Int) * b.natAbs := by rw [h2]; exact Int.natCast_mul _ _
 generalize a * b = p at *
 omega
theorem fits_mul (a b : Int) (a0 : -9223372036854775808 ≤ a) (a1 : a ≤ 9223372036854775807) (b0 : -9223372036854775808 ≤ b) (b1 : b ≤ 9223372036854775807) : fits (a * b) = true := by
 have := mul_bound a b a0 a1 b0 b1;rw [zAl]; omega
theorem ok_w (x y : Int) : Ok (wrap64 x) (IntKind.u64.wrap y) := by
 rw [IntKind.wrap_u64]; unfold wrap64; exact ⟨by omega, by omega, by omega, by omega⟩
theorem halves (X Y : Int) (x0 : 0 ≤ X) (x1 : X ≤ 9223372036854775808) (y0 : 0 ≤ Y) (y1 : Y ≤ 9223372036854775808) :
    V (wrap64 (IntKind.u64.wrap (X / 4294967296 * (Y / 4294967296)))) (IntKind.u64.wrap (X % 4294967296 * (Y % 4294967296))) +
    V (wrap64 (IntKind.u64.wrap (X % 4294967296 * (Y / 4294967296)) / 4294967296)) (IntKind.u64.wrap (IntKind.u64.wrap (X % 4294967296 * (Y / 4294967296)) * 4294967296)) +
    V (wrap64 (IntKind.u64.wrap (X / 4294967296 * (Y % 4294967296)) / 4294967296)) (IntKind.u64.wrap (IntKind.u64.wrap (X / 4294967296 * (Y % 4294967296)) * 4294967296)) = X * Y := by
 have b1 : 0 ≤ X / 4294967296 ∧ X / 4294967296 ≤ 2147483648 := by omega
 have b2 : 0 ≤ X % 4294967296 ∧ X % 4294967296 ≤ 4294967295 := by omega
 have b3 : 0 ≤ Y / 4294967296 ∧ Y / 4294967296 ≤ 2147483648 := by omega
 have b4 : 0 ≤ Y % 4294967296 ∧ Y % 4294967296 ≤ 4294967295 := by omega
 have ex : X = X / 4294967296 * 4294967296 + X % 4294967296 := by omega
 have ey : Y = Y / 4294967296 * 4294967296 + Y % 4294967296 := by omega
 generalize X / 4294967296 = xh at *
 generalize X % 4294967296 = xl at *
 generalize Y / 4294967296 = yh at *
 generalize Y % 4294967296 = yl at *
 have pb : ∀ p q P Q : Int, 0 ≤ p → p ≤ P → 0 ≤ q → q ≤ Q → 0 ≤ p * q ∧ p * q ≤ P * Q := fun p q P Q h1 h2 h3 h4 =>
  ⟨Int.mul_nonneg h1 h3, Int.mul_le_mul h2 h4 h3 (Int.le_trans h1 h2)⟩
 have p1 := pb xh yh _ _ b1.1 b1.2 b3.1 b3.2;have p2 := pb xl yl _ _ b2.1 b2.2 b4.1 b4.2;have p3 := pb xl yh _ _ b2.1 b2.2 b3.1 b3.2;have p4 := pb xh yl _ _ b1.1 b1.2 b4.1 b4.2;have e : X * Y = xh * yh * 18446744073709551616 + (xh * yl + xl * yh) * 4294967296 + xl * yl := by rw [ex, ey]; grind
 rw [e];generalize xh * yh = A at *
 generalize xl * yl = B at *
 generalize xl * yh = C at *
 generalize xh * yl = D at *
 simp only [IntKind.wrap_u64];unfold wrap64 V;omega
theorem lo_lt {l1 l2 : Int} (a : 0 ≤ l1) (b : l1 ≤ 18446744073709551615) (c : 0 ≤ l2) (d : l2 ≤ 18446744073709551615) : (lo l1 l2 < l1 → cy l1 l2 = 1) ∧ (l1 ≤ lo l1 l2 → cy l1 l2 = 0) := by
 unfold lo cy; omega
structure Pt where
 x : Int
 y : Int
theorem Pt.eq_iff {p q : Pt} : p = q ↔ p.x = q.x ∧ p.y = q.y := by
 cases p; cases q; simp
def inG (n : Int) : Bool := decide (0 ≤ n ∧ n < 16777216)
def vld (p : Pt) : Bool := inG p.x && inG p.y
def cmpN (a b : Int) : Int := sgn (a - b)
def cmpP (p q : Pt) : Int := if p.x = q.x then cmpN p.y q.y else cmpN p.x q.x
def det (a b c : Pt) : Int := (b.x - a.x) * (c.y - a.y) - (b.y - a.y) * (c.x - a.x)
def ori (a b c : Pt) : Int := if vld a = true ∧ vld b = true ∧ vld c = true then sgn (det a b c) else 0
theorem zAx {p : Pt} : vld p = true ↔ (0 ≤ p.x ∧ p.x < 16777216) ∧ 0 ≤ p.y ∧ p.y < 16777216 := by simp [vld, inG]
instance : DecidableEq Pt := fun p q => decidable_of_iff (p.x = q.x ∧ p.y = q.y) Pt.eq_iff.symm
instance : Inhabited Pt := ⟨⟨0, 0⟩⟩
@[reducible] def eW (w : Pt × Pt) : Value := .agg #[.int .i64 w.1.x, .int .i64 w.1.y, .int .i64 w.2.x, .int .i64 w.2.y]
def okI (n : Int) : Prop := (Lit.int .i64 n).wf = true
def okP (p : Pt) : Prop := okI p.x ∧ okI p.y
def okW (w : Pt × Pt) : Prop := okP w.1 ∧ okP w.2
theorem eW_inj {v w : Pt × Pt} (h : eW v = eW w) : v = w := by
 obtain ⟨⟨a, b⟩, ⟨c, d⟩⟩ := v;obtain ⟨⟨e, f⟩, ⟨g, i⟩⟩ := w
 simpa [eW, and_assoc] using h
theorem laidTry : laidOutB Tryz.prog = true := by kernel_rfl
theorem zJp {P : Program} {t : TypeId} (ht : P.underlying t = some (.int .i64)) (d : Nat) {n : Int} (h : okI n) : P.keyLits (d + 1) t [.int .i64 n] = some [.int .i64 n] := by
 unfold okI at h;simp only [Program.keyLits, ht, h, and_self, if_true]
theorem zJo {P : Program} {t : TypeId} {f g : Field} (ht : P.underlying t = some (.struct #[f, g])) (hc : P.cellsOf t = P.cellsOf f.type + P.cellsOf g.type) (hf : f.name ≠ "_") (hg : g.name ≠ "_") (ho : f.offset = 0) (hp : g.offset = P.cellsOf f.type) (d : Nat)
    {xs ys : List Value} {a b : List Lit} (h1 : xs.length = P.cellsOf f.type) (h2 : ys.length = P.cellsOf g.type) (h3 : P.keyLits d f.type xs = some a) (h4 : P.keyLits d g.type ys = some b) : P.keyLits (d + 1) t (xs ++ ys) = some (a ++ b) := by
 have e1 : ((xs ++ ys).drop f.offset).take (P.cellsOf f.type) = xs := by rw [ho, List.drop_zero, ← h1]; simp
 have e2 : ((xs ++ ys).drop g.offset).take (P.cellsOf g.type) = ys := by rw [hp, ← h1, ← h2]; simp
 simp only [Program.keyLits, ht];rw [if_pos ⟨by simp [h1, h2, hc], by simp [hf, hg]⟩];simp [e1, e2, h3, h4]
theorem zKl (d : Nat) (p : Pt) (h : okP p) : Tryz.prog.keyLits (d + 1 + 1) 30 [.int .i64 p.x, .int .i64 p.y] = some [.int .i64 p.x, .int .i64 p.y] :=
 zJo Tryz.underlying30 (by kernel_rfl) (by decide) (by decide) rfl (by kernel_rfl) (d + 1) (xs := [.int .i64 p.x]) (ys := [.int .i64 p.y]) (by kernel_rfl) (by kernel_rfl) (zJp Tryz.underlying3 d h.1) (zJp Tryz.underlying3 d h.2)
theorem zKo {t : TypeId} {f g : Field} (ht : Tryz.prog.underlying t = some (.struct #[f, g])) (hk : Tryz.prog.keyType t = true) (hc : Tryz.prog.cellsOf t = 4) (hf : f.name ≠ "_") (hg : g.name ≠ "_") (ho : f.offset = 0) (hp : g.offset = 2)
    (tf : f.type = 30) (tg : g.type = 30) (w : Pt × Pt) (h : okW w) (hfm : Value.formed Tryz.prog t (eW w) = true) : ∃ l, keyOf Tryz.prog t (eW w) = some l := by
 have hP : Tryz.prog.cellsOf 30 = 2 := by kernel_rfl
 have hn : 2 ≤ Tryz.prog.types.size := of_decide_eq_true (by kernel_rfl);obtain ⟨d, hd⟩ : ∃ d, Tryz.prog.types.size + 1 = d + 1 + 1 + 1 := ⟨Tryz.prog.types.size - 2, by omega⟩;have hl := zJo (P := Tryz.prog) ht (by rw [tf, tg, hP, hc]) hf hg ho (by rw [tf, hP, hp]) (d + 1 + 1) (xs := [.int .i64 w.1.x, .int .i64 w.1.y]) (ys := [.int .i64 w.2.x, .int .i64 w.2.y]) (by rw [tf, hP]; rfl) (by rw [tg, hP]; rfl)
  (by rw [tf]; exact zKl d w.1 h.1) (by rw [tg]; exact zKl d w.2 h.2)
 unfold keyOf;simp only [ht, hk, hfm, Bool.and_self, if_true, hd];exact ⟨_, congrArg (Option.map _) hl⟩
theorem zIl {t : TypeId} {fs : Array Field} (ht : Tryz.prog.underlying t = some (.struct fs)) (h1 : t < Tryz.prog.types.size) (h2 : Tryz.prog.keyTypeAt 5 t = true) : Go.Maps.Keyed Tryz.prog t := by
 refine Go.Maps.Keyed.of_law (deep_law_laid laidTry (m := 5) (by decide) h1 h2 ?_);rw [ht]
theorem kvM : KV Tryz.prog 123 43 96 eW okW where
 keyed := zIl Tryz.underlying123 (of_decide_eq_true (by kernel_rfl)) (by kernel_rfl)
 ty := Tryz.underlying96
 key w h := zKo Tryz.underlying123 (by kernel_rfl) (by kernel_rfl) (by decide) (by decide) rfl rfl rfl rfl w h (by kernel_rfl)
 inj := eW_inj
theorem kvR : KV Tryz.prog 101 43 52 eW okW where
 keyed := zIl Tryz.underlying101 (of_decide_eq_true (by kernel_rfl)) (by kernel_rfl)
 ty := Tryz.underlying52
 key w h := zKo Tryz.underlying101 (by kernel_rfl) (by kernel_rfl) (by decide) (by decide) rfl rfl rfl rfl w h (by kernel_rfl)
 inj := eW_inj
end Go.Proofs.YtjkfakaehjmnbaaGreat
namespace Go.Proofs.YtjkfakaehjmnbaaGreat
open Go.RowKit Go.Sort
theorem zAu {k : IntKind} {a b : Int} (h : a = b) : Ending.returned (.int k a) = .returned (.int k b) := by rw [h]
theorem zCr {a b : Bool} (h : a = b) : Ending.returned (.bool a) = .returned (.bool b) := by rw [h]
theorem zA2 {P : Program} {c : Code} {Q : Exit → Act → World → Prop} {a : Act} {W0 : World} (h : ∀ W, W = W0 → c.wp P Q a W) : c.wp P Q a W0 := h W0 rfl
theorem bcell {n : Nat} {W w1 : World} (hb : Below n W w1) (hn : n = W.heap.size) :
    (∀ b o, b < n → w1.cell? ⟨b, o, none⟩ = W.cell? ⟨b, o, none⟩) ∧ (∀ b o, b < n → w1.frozen? ⟨b, o, none⟩ = W.frozen? ⟨b, o, none⟩) ∧
    (∀ b, b < n → b < w1.heap.size) ∧ (∀ b, b < n → (b = w1.heap.size) = False) ∧ (∀ b, b < n → (w1.heap.size = b) = False) :=
 ⟨fun b o h => hb.cell (p := ⟨b, o, none⟩) h, fun b o h => hb.frozen (p := ⟨b, o, none⟩) h, fun b h => by have := hn ▸ hb.size; omega,
  fun b h => by have := hn ▸ hb.size; simp; omega, fun b h => by have := hn ▸ hb.size; simp; omega⟩
theorem cell?_none_set (w : World) (a : Addr) (v : Value) (h : w.cell? a = none) : (w.setCell a v).cell? a = none := by
 unfold World.cell? at h ⊢;simp only [World.setCell, Array.getElem?_modify, ↓reduceIte];cases hh : w.heap[a.block]? with
 | none => rfl
 | some x =>
  rw [hh] at h;cases x with
  | cells c e f =>
   simp only [Option.map_some];simp only at h;cases hs : a.spot.isSome with
   | true => simp
   | false =>
    rw [hs] at h;simp only [Bool.false_eq_true, if_false] at h ⊢;have : c.size ≤ a.off := Array.getElem?_eq_none_iff.1 h;rw [Array.getElem?_eq_none_iff]
    simpa using this
  | _ => rfl
theorem cell_set (w : World) (a b : Addr) (v : Value) : (w.setCell a v).cell? b = if a = b then (if (w.cell? a).isSome = true then some v else none) else w.cell? b := by
 by_cases h : a = b
 ·subst h;rw [if_pos rfl];cases hc : w.cell? a with
  | none => simp [cell?_none_set w a v hc]
  | some u => rw [World.cell?_setCell_same (h := hc)]; simp
 ·rw [if_neg h, World.cell?_setCell_other (h := h)]
section
variable {P : Program} {ops : Array Oper} {md : Region.Mode} {C : World → Prop}
def Ext (w w' : World) : Prop := Below w.heap.size w w'
def rUpon (P : Program) (w : World) (v : Value) : Result Next → Prop
 | .ok (.value u) w' => w' = w ∧ u = v
 | .ok .skip w' => w' = w ∧ v = undef
 | .ok (.enter f args) w' => w' = w ∧ Calls P f args w (fun e w'' => e = .returned v ∧ Ext w w'')
 | _ => False
def rAt (P : Program) (o : Oper) (a : Act) (w : World) (v : Value) : Prop := rUpon P w v ((execOp a.eval o).run P w)
def rOper (P : Program) (o : Oper) (a : Act) (C : World → Prop) (next : Act → Prop) : Prop := ∃ v, (∀ w, C w → rAt P o a w v) ∧ next (a.put o.dst v)
def rWalk (P : Program) (ops : Array Oper) (C : World → Prop) (Q : Act → Prop) : List Oper → Act → Prop
 | [], a => Q a
 | o :: rest, a => if Region.wanted o (yielded ops a.tmps) then rOper P o a C (rWalk P ops C Q rest) else rWalk P ops C Q rest (a.put o.dst undef)
theorem rWalk_nil {Q : Act → Prop} {a : Act} (h : Q a) : rWalk P ops C Q [] a := h
theorem rWalk_step {Q : Act → Prop} {a : Act} {o : Oper} {rest : List Oper}
    (h : ∀ K : Act → Prop, (∀ a, rWalk P ops C Q rest a → K a) → if Region.wanted o (yielded ops a.tmps) then rOper P o a C K else K (a.put o.dst undef)) : rWalk P ops C Q (o :: rest) a :=
 h _ (fun _ h => h)
def rYields (P : Program) (ops : Array Oper) (C : World → Prop) (o : Oper) (v : Value) (a : Act) : Prop :=
 (Region.wanted o (yielded ops a.tmps) = true ∧ ∀ w, C w → rAt P o a w v) ∨ (Region.wanted o (yielded ops a.tmps) = false ∧ v = undef)
theorem rYields.same {o : Oper} {v : Value} {a a' : Act} (hy : rYields P ops C o v a) (he : execOp a'.eval o = execOp a.eval o)
    (hw : Region.wanted o (yielded ops a'.tmps) = Region.wanted o (yielded ops a.tmps)) : rYields P ops C o v a' := by
 unfold rYields rAt at *;rw [he, hw];exact hy
theorem rYields.of_walk {o : Oper} {rest : List Oper} {Q : Act → Prop} {a : Act} (h : rWalk P ops C Q (o :: rest) a) : ∃ v, rYields P ops C o v a ∧ rWalk P ops C Q rest (a.put o.dst v) := by
 simp only [rWalk] at h;cases hw : Region.wanted o (yielded ops a.tmps) with
 | true =>
  rw [hw, if_pos rfl] at h;obtain ⟨v, h1, h2⟩ := h;exact ⟨v, .inl ⟨hw, h1⟩, h2⟩
 | false =>
  rw [hw, if_neg (by simp)] at h;exact ⟨undef, .inr ⟨hw, rfl⟩, h⟩
def rAny (P : Program) (md : Region.Mode) (ops : Array Oper) (C : World → Prop) (n : Nat) (L : Array Bool → Act → Prop) : Nat → Array Bool → Act → Prop
 | 0, listed, a => L listed a
 | f + 1, listed, a => Region.ready md ops listed ≠ [] ∧
  ∀ i ∈ Region.ready md ops listed, i < n ∧ ∃ o v, ops[i]? = some o ∧ rYields P ops C o v a ∧ rAny P md ops C n L f (listed.setIfInBounds i true) (a.put o.dst v)
def TailWaits (md : Region.Mode) (ops : Array Oper) (n : Nat) (listed : Array Bool) : Prop :=
 ∀ i, i < n → listed.getD i true = false → ∀ t, n ≤ t → t ∉ Region.ready md ops listed
theorem zDr {n i : Nat} {oi : Oper} {v : Value} {L : Array Bool → Act → Prop} (hi : ops[i]? = some oi) (hsel : ∀ (j : Nat) (o : Oper) cs b, ops[j]? = some o → o.op ≠ .select cs b)
    (hin : i < n) (Inv : Array Bool → Prop) (hinv : ∀ listed j, Inv listed → j ∈ Region.ready md ops listed → j < n → Inv (listed.setIfInBounds j true))
    (htail : ∀ listed, Inv listed → TailWaits md ops n listed)
    (hdone : ∀ listed a, L listed a → ∀ j ∈ Region.ready md ops listed, n ≤ j) :
    ∀ (f : Nat) (listed : Array Bool) (a : Act), Inv listed →
     (∀ j oj, ops[j]? = some oj → j ≠ i → listed.getD j true = false → (∀ e ∈ oj.after, Region.binds md e = true → e.on ≠ i) → oi.apart ops oj = true) →
     i ∈ Region.ready md ops listed → rYields P ops C oi v a →
     rAny P md ops C n L f (listed.setIfInBounds i true) (a.put oi.dst v) → rAny P md ops C n L (f + 1) listed a := by
 intro f;induction f with
 | zero =>
  intro listed a inv _ hr hy H;have hun := (mem_ready.1 hr).1;refine ⟨fun h => (by rw [h] at hr; cases hr), fun j hj => ?_⟩;have hjn : j < n := by
   rcases Nat.lt_or_ge j n with h | h
   ·exact h
   ·exact absurd hj (htail _ inv i hin hun j h)
  by_cases hji : j = i
  ·subst hji; exact ⟨hjn, oi, v, hi, hy, H⟩
  ·have := hdone _ _ H j (ready_mono hj hji);omega
 | succ f ih =>
  intro listed a inv hfree hr hy H;have hun := (mem_ready.1 hr).1;refine ⟨fun h => (by rw [h] at hr; cases hr), fun j hj => ?_⟩;have hjn : j < n := by
   rcases Nat.lt_or_ge j n with h | h
   ·exact h
   ·exact absurd hj (htail _ inv i hin hun j h)
  by_cases hji : j = i
  ·subst hji; exact ⟨hjn, oi, v, hi, hy, H⟩
  ·obtain ⟨_, oj, u, hoj, hyj, hK⟩ := H.2 j (ready_mono hj hji);obtain ⟨hjun, oj', hoj', hall⟩ := mem_ready.1 hj;have hoo : oj' = oj := Option.some.inj (hoj'.symm.trans hoj);subst hoo;have hnot : ∀ e ∈ oj'.after, Region.binds md e = true → e.on ≠ i := fun e he hb heq => by
    have h1 := hall e he hb;rw [heq, getD_both hun] at h1;cases h1
   obtain ⟨h1, h2, h3⟩ := Oper.apart_spec (hfree j oj' hoj hji hjun hnot);have hyj' : rYields P ops C oj' u a := hyj.same (execOp_put oj' (fun cs b => hsel j oj' cs b hoj) a oi.dst v h1).symm (wanted_put oj' a oi.dst v h1).symm;have hyi' : rYields P ops C oi v (a.put oj'.dst u) := hy.same (execOp_put oi (fun cs b => hsel i oi cs b hi) a oj'.dst u h3) (wanted_put oi a oj'.dst u h3);refine ⟨hjn, oj', u, hoj, hyj', ?_⟩;refine ih (listed.setIfInBounds j true) _ (hinv _ _ inv hj hjn) (fun k ok hk hki hun' hno => ?_) (ready_mono hr (Ne.symm hji)) hyi' ?_
   ·refine hfree k ok hk hki ?_ hno;by_cases hjk : j = k
    ·subst hjk; exact hjun
    ·rw [getD_set_ne true hjk] at hun'; exact hun'
   ·rw [Array.setIfInBounds_comm _ _ hji, ← Act.put_comm a v u h2];exact hK
def orderB (md : Region.Mode) (ops : Array Oper) (n g : Nat) : List Nat → Array Bool → Bool
 | [], listed => Region.seqB md ops g n listed
 | k :: is, listed => decide (k < n) && (Region.ready md ops listed).contains k && Region.free md ops listed k && orderB md ops n g is (listed.setIfInBounds k true)
theorem zBv {n g : Nat} {Lq : Act → Prop} (hsel : Region.noSelect ops = true) (Inv : Array Bool → Prop)
    (hinv : ∀ listed j, Inv listed → j ∈ Region.ready md ops listed → j < n → Inv (listed.setIfInBounds j true)) (htail : ∀ listed, Inv listed → TailWaits md ops n listed) :
    ∀ (is : List Nat) (l : List Oper) (listed : Array Bool) (a : Act), is.map (fun i => ops[i]?) = l.map some → Inv listed → orderB md ops n g is listed = true → rWalk P ops C Lq l a →
     rAny P md ops C n (fun listed' a' => Region.seqB md ops g n listed' = true ∧ Lq a') is.length listed a
 | [], [], listed, a, _, _, hB, h => ⟨hB, h⟩
 | [], _ :: _, _, _, hl, _, _, _ => by cases hl
 | _ :: _, [], _, _, hl, _, _, _ => by cases hl
 | k :: is, o :: l, listed, a, hl, inv, hB, h => by
  simp only [List.map_cons, List.cons.injEq] at hl;obtain ⟨h0, hl⟩ := hl;simp only [orderB, Bool.and_eq_true, decide_eq_true_eq] at hB;obtain ⟨⟨⟨hkn, hr⟩, hf⟩, hB'⟩ := hB;have hr' : k ∈ Region.ready md ops listed := by simpa using hr
  obtain ⟨v, hy, hK⟩ := rYields.of_walk h;exact zDr h0 (Region.noSelect_spec hsel) hkn Inv hinv htail (fun listed' a' hL => seqB_ready hL.1) is.length listed a inv (Region.free_spec h0 hf) hr' hy
   (zBv hsel Inv hinv htail is l _ _ hl (hinv _ _ inv hr' hkn) hB' hK)
theorem heap_new (w : World) (o : Obj) : (w.alloc o).heap[w.heap.size]? = some o := by
 show (w.heap.push o)[w.heap.size]? = some o;simp
theorem alloc_cell (w : World) (o : Obj) (b i : Nat) (h : (b = w.heap.size) = False) : (w.alloc o).cell? ⟨b, i, none⟩ = w.cell? ⟨b, i, none⟩ :=
 World.cell?_alloc_old w o ⟨b, i, none⟩ (by simpa using h)
theorem alloc_frozen (w : World) (o : Obj) (b i : Nat) (h : (b = w.heap.size) = False) : (w.alloc o).frozen? ⟨b, i, none⟩ = w.frozen? ⟨b, i, none⟩ := by
 have h' : b ≠ w.heap.size := by simpa using h
 simp only [World.frozen?, World.alloc, Array.getElem?_push, if_neg h']
def Box (w : World) (b : Nat) (cs : List Value) (T : TypeId) : Prop := w.heap[b]? = some (.cells cs.toArray T (0, 0))
theorem Box.f {w : World} {b : Nat} {cs : List Value} {T : TypeId} (h : Box w b cs T) :
    (∀ i, w.cell? ⟨b, i, none⟩ = cs[i]?) ∧ (∀ i, w.frozen? ⟨b, i, none⟩ = false) ∧ ((b = w.heap.size) = False) ∧ ((w.heap.size = b) = False) := by
 have hb : b < w.heap.size := by
  rcases Nat.lt_or_ge b w.heap.size with h' | h'
  ·exact h'
  ·unfold Box at h; rw [Array.getElem?_eq_none h'] at h; cases h
 refine ⟨fun i => ?_, fun i => ?_, by simp; omega, by simp; omega⟩
 ·unfold Box at h; simp [World.cell?, h]
 ·unfold Box at h; simp [World.frozen?, h]
theorem Box.lt {w : World} {b : Nat} {cs : List Value} {T : TypeId} (h : Box w b cs T) : b < w.heap.size := by
 rcases Nat.lt_or_ge b w.heap.size with h' | h'
 ·exact h'
 ·unfold Box at h; rw [Array.getElem?_eq_none h'] at h; cases h
theorem Box.ext {w w' : World} {b n : Nat} {cs : List Value} {T : TypeId} (h : Box w b cs T) (hb : Below n w w') (hn : n = w.heap.size) : Box w' b cs T := by
 unfold Box at *;rw [hb.block b (hn ▸ Box.lt h)]; exact h
theorem Box.ee {w w' : World} {b : Nat} {cs : List Value} {T : TypeId} (h : Box w b cs T) (hb : Below w.heap.size w w') : Box w' b cs T := h.ext hb rfl
theorem Box.grown {w : World} {b : Nat} {cs : List Value} {T : TypeId} (h : Box w b cs T) : ∀ d os, Box (grow (redrawn w d) os) b cs T := fun d os =>
 h.ext (below_regrown w d os) rfl
theorem Box.cells {w : World} {b : Nat} {cs : List Value} {T : TypeId} (h : Box w b cs T) : ∀ d os i, (grow (redrawn w d) os).cell? ⟨b, i, none⟩ = cs[i]? := fun d os => (h.grown d os).f.1
theorem heap_alloc (w : World) (o : Obj) (b : Nat) : (w.alloc o).heap[b]? = if b = w.heap.size then some o else w.heap[b]? := by
 show (w.heap.push o)[b]? = _;rw [Array.getElem?_push]
theorem Box.new {w : World} {b : Nat} {cs : List Value} {T : TypeId} (hb : b = w.heap.size) : Box (w.alloc (.cells cs.toArray T)) b cs T := by
 unfold Box; rw [heap_alloc, if_pos hb]
theorem Box.old {w : World} {b : Nat} {cs : List Value} {T : TypeId} (h : Box w b cs T) (o : Obj) : Box (w.alloc o) b cs T := by
 have := Box.lt h;unfold Box at *; rw [heap_alloc, if_neg (by omega), h]
theorem Box.set {w : World} {b : Nat} {cs : List Value} {T : TypeId} (h : Box w b cs T) (i : Nat) (v : Value) : Box (w.setCell ⟨b, i, none⟩ v) b (cs.set i v) T := by
 unfold Box at *;simp only [World.setCell, Array.getElem?_modify, ↓reduceIte, h, Option.map_some];simp
theorem Box.set_ne {w : World} {b : Nat} {cs : List Value} {T : TypeId} (h : Box w b cs T) (a : Addr) (v : Value) (hne : a.block ≠ b) : Box (w.setCell a v) b cs T := by
 unfold Box at *;simp only [World.setCell, Array.getElem?_modify];rw [if_neg hne, h]
theorem Box.sn {w : World} {b : Nat} {cs : List Value} {T : TypeId} (h : Box w b cs T) (k i : Nat) (v : Value) (hk : k ≠ b) : Box (w.setCell ⟨k, i, none⟩ v) b cs T := h.set_ne ⟨k, i, none⟩ v hk
theorem zA1 {P : Program} {f : FuncId} {args : Array Value} {R : Ending → World → Prop} {W0 : World} (h : ∀ W, W = W0 → Calls P f args W R) : Calls P f args W0 R := h W0 rfl
theorem Ext.trans {a b c : World} (h : Ext a b) (k : Ext b c) : Ext a c := Below.trans h (Below.mono k h.size)
theorem zAw {i : Nat} {o : Oper} {v : Value} {a : Act} {K : Act → World → Prop} {Q : Exit → Act → World → Prop} {w : World} (hi : ops[i]? = some o) (hC : C w) (hy : rYields P ops C o v a)
    (h : ∀ w', Ext w w' → K (a.put o.dst v) w') : wpOp P ops Q i K a w := by
 have hrefl : Ext w w := Below.refl _ _;unfold wpOp;simp only [hi];rcases hy with ⟨hw, hv⟩ | ⟨hw, rfl⟩
 ·rw [if_pos hw];refine .inl ?_;have h3 := hv w hC;unfold rAt at h3;unfold Oper.wp;generalize (execOp a.eval o).run P w = r at *
  cases r with
  | ok n w' =>
   cases n <;> simp only [rUpon] at h3 <;> simp only [Oper.upon]
   case value u => obtain ⟨e1, e2⟩ := h3; rw [e1, e2]; exact h _ hrefl
   case skip => obtain ⟨e1, e2⟩ := h3; rw [e1, ← e2]; exact h _ hrefl
   case enter f args =>
    obtain ⟨e1, hc⟩ := h3;rw [e1];exact hc.mono fun e w'' ⟨he, hw''⟩ => by subst he; exact h _ hw''
  | halt x w' => simp only [rUpon] at h3
 ·rw [hw, if_neg (by simp)];exact h _ hrefl
theorem zBa {n g : Nat} {Q : Exit → Act → World → Prop} {Lq : Act → Prop} {l : List Oper} {dst : Option Tmp} {u : Value} {D : World → Prop} (hsel : Region.noSelect ops = true)
    (hg : l.length = g) (hl : ∀ j, l[j]? = ops[n + j]?) (hD : ∀ w, D w → C w) (hDe : ∀ w w', D w → Ext w w' → D w')
    (J : Nat → Prop) (hap : ∀ i o, i < n → ¬ J i → ops[i]? = some o → (∀ d, dst = some d → d ∉ o.looksAt ops) ∧ (∀ d, dst = some d → o.dst ≠ some d))
    (hQ : ∀ a w, D w → Lq a → wpList P ops Q l (a.put dst u) w) :
    ∀ (f : Nat) (listed : Array Bool) (a : Act) (w : World), D w → (∀ i, J i → listed.getD i true = true) →
     rAny P md ops C n (fun listed' a' => Region.seqB md ops g n listed' = true ∧ Lq a') f listed a → wpAny P md ops Q (f + g) listed (a.put dst u) w
 | 0, listed, a, w, hw, _, h => by
  rw [Nat.zero_add];subst hg;exact wpAny_of_seq l n listed _ w hl h.1 (hQ a w hw h.2)
 | f + 1, listed, a, w, hw, hJ, h => by
  rw [show f + 1 + g = (f + g) + 1 by omega];refine ⟨fun h0 => absurd h0 h.1, fun i hi => ?_⟩;obtain ⟨hin, o, v, ho, hy, hK⟩ := h.2 i hi;have hiun := (mem_ready.1 hi).1;have hnJ : ¬ J i := fun hj => by rw [hJ i hj] at hiun; cases hiun
  obtain ⟨h1, h2⟩ := hap i o hin hnJ ho;have hy' : rYields P ops C o v (a.put dst u) := hy.same (execOp_put o (fun cs b => Region.noSelect_spec hsel i o cs b ho) a dst u h1) (wanted_put o a dst u h1);refine zAw ho (hD w hw) hy' fun w' hw' => ?_;rw [Act.put_comm a u v h2];refine zBa hsel hg hl hD hDe J hap hQ f _ _ w' (hDe _ _ hw hw') (fun k hk => ?_) hK;by_cases hik : i = k
  ·subst hik; exact absurd hk hnJ
  ·rw [getD_set_ne true hik]; exact hJ k hk
def plainB (md : Region.Mode) (ops : Array Oper) (n : Nat) : Bool :=
 Region.noSelect ops && decide (n < ops.size) && Region.sinkB md ops n && Region.chainB md ops n && orderB md ops n (ops.size - n) (List.range n) (Array.replicate ops.size false)
theorem headInv0 {n : Nat} : HeadInv md ops n (Array.replicate ops.size false) :=
 ⟨by simp, fun j oj _ hl => (by rw [getD_replicate_false] at hl; cases hl), fun t _ ht => getD_in (by simpa using ht) (getD_replicate_false _ _)⟩
theorem wp_region_tail {id : Nat} {Q : Exit → Act → World → Prop} {a : Act} {w : World} {l : List Oper} (n : Nat) (hm : P.follows .mixedOrders = true) (hB : plainB .any l.toArray n = true)
    (hC : ∀ w', Below w.heap.size w w' → C w')
    (h : rWalk P l.toArray C (fun a' => ∀ w', Below w.heap.size w w' → wpList P l.toArray Q (l.drop n) a' w') (l.take n) a) : (Code.region id l.toArray true).wp P Q a w := by
 simp only [plainB, Bool.and_eq_true, decide_eq_true_eq] at hB;obtain ⟨⟨⟨⟨hsel, hn⟩, hs⟩, hc⟩, ho⟩ := hB;have hn' : n < l.length := by simpa using hn
 have hmap : (List.range n).map (fun i => l.toArray[i]?) = (l.take n).map some := by
  apply List.ext_getElem?;intro j;simp only [List.getElem?_map, List.getElem?_take];by_cases hj : j < n
  ·simp [hj, show j < l.length by omega]
  ·simp [hj]
 have H := zBv (md := .any) (g := l.toArray.size - n) hsel (HeadInv .any l.toArray n) (fun listed j inv hj hjn => inv.set hj hjn) (fun listed inv i hi hun => tail_waits hs hc hn inv _ i rfl hi hun)
  (List.range n) (l.take n) _ a hmap headInv0 ho h
 refine wp_region_any hm ?_;have := zBa (md := .any) (Q := Q) (l := l.drop n) (dst := none) (u := undef) (D := fun w' => Below w.heap.size w w') hsel (by simp) (fun j => by simp [List.getElem?_drop])
  hC (fun a b ha hb => Ext.trans (a := w) ha hb) (fun _ => False) (fun i o _ _ _ => ⟨fun d hd => (by cases hd), fun d hd => (by cases hd)⟩)
  (fun a' w' hw' hl => hl w' hw') _ _ _ { w with drawn := w.drawn + 1 } ⟨rfl, rfl, rfl, Nat.le_refl _, fun _ _ => rfl⟩ (fun i hi => hi.elim) H
 rw [List.length_range, show n + (l.toArray.size - n) = l.toArray.size by omega] at this;exact this
end
theorem wrt {P : Program} {id : Nat} {Q : Exit → Act → World → Prop} {a : Act} {w : World} {l : List Oper} (n : Nat) (hm : P.follows .mixedOrders = true) (hB : plainB .any l.toArray n = true)
  (h : rWalk P l.toArray (fun w' => ∃ p : Regrown, w' = grow (redrawn w p.d) p.os) (fun a' => ∀ w', Below w.heap.size w w' → wpList P l.toArray Q (l.drop n) a' w') (l.take n) a) : (Code.region id l.toArray true).wp P Q a w := wp_region_tail n hm hB (fun _ h => regrown_of_below h) h
theorem X1 {w0 w w' : World} {b0 : Nat} {c0 : List Value} {T0 : TypeId} (h0 : Box w b0 c0 T0) (hw : Below w0.heap.size w0 w) (hb : Below w.heap.size w w') : Box w' b0 c0 T0 ∧ Below w0.heap.size w0 w' ∧ (((∀ i, w'.cell? ⟨b0, i, none⟩ = c0[i]?) ∧ (∀ i, w'.frozen? ⟨b0, i, none⟩ = false) ∧ ((b0 = w'.heap.size) = False) ∧ ((w'.heap.size = b0) = False))) :=
 ⟨h0.ext hb rfl, hw.trans (hb.mono hw.size), (h0.ext hb rfl).f⟩
theorem X2 {w0 w w' : World} {b0 b1 : Nat} {c0 c1 : List Value} {T0 T1 : TypeId} (h0 : Box w b0 c0 T0) (h1 : Box w b1 c1 T1) (hw : Below w0.heap.size w0 w) (hb : Below w.heap.size w w') : Box w' b0 c0 T0 ∧ Box w' b1 c1 T1 ∧ Below w0.heap.size w0 w' ∧ (((∀ i, w'.cell? ⟨b0, i, none⟩ = c0[i]?) ∧ (∀ i, w'.frozen? ⟨b0, i, none⟩ = false) ∧ ((b0 = w'.heap.size) = False) ∧ ((w'.heap.size = b0) = False)) ∧ ((∀ i, w'.cell? ⟨b1, i, none⟩ = c1[i]?) ∧ (∀ i, w'.frozen? ⟨b1, i, none⟩ = false) ∧ ((b1 = w'.heap.size) = False) ∧ ((w'.heap.size = b1) = False))) :=
 ⟨h0.ext hb rfl, h1.ext hb rfl, hw.trans (hb.mono hw.size), ⟨(h0.ext hb rfl).f, (h1.ext hb rfl).f⟩⟩
theorem X3 {w0 w w' : World} {b0 b1 b2 : Nat} {c0 c1 c2 : List Value} {T0 T1 T2 : TypeId} (h0 : Box w b0 c0 T0) (h1 : Box w b1 c1 T1) (h2 : Box w b2 c2 T2) (hw : Below w0.heap.size w0 w) (hb : Below w.heap.size w w') : Box w' b0 c0 T0 ∧ Box w' b1 c1 T1 ∧ Box w' b2 c2 T2 ∧ Below w0.heap.size w0 w' ∧ (((∀ i, w'.cell? ⟨b0, i, none⟩ = c0[i]?) ∧ (∀ i, w'.frozen? ⟨b0, i, none⟩ = false) ∧ ((b0 = w'.heap.size) = False) ∧ ((w'.heap.size = b0) = False)) ∧ ((∀ i, w'.cell? ⟨b1, i, none⟩ = c1[i]?) ∧ (∀ i, w'.frozen? ⟨b1, i, none⟩ = false) ∧ ((b1 = w'.heap.size) = False) ∧ ((w'.heap.size = b1) = False)) ∧ ((∀ i, w'.cell? ⟨b2, i, none⟩ = c2[i]?) ∧ (∀ i, w'.frozen? ⟨b2, i, none⟩ = false) ∧ ((b2 = w'.heap.size) = False) ∧ ((w'.heap.size = b2) = False))) :=
 ⟨h0.ext hb rfl, h1.ext hb rfl, h2.ext hb rfl, hw.trans (hb.mono hw.size), ⟨(h0.ext hb rfl).f, (h1.ext hb rfl).f, (h2.ext hb rfl).f⟩⟩
theorem X4 {w0 w w' : World} {b0 b1 b2 b3 : Nat} {c0 c1 c2 c3 : List Value} {T0 T1 T2 T3 : TypeId} (h0 : Box w b0 c0 T0) (h1 : Box w b1 c1 T1) (h2 : Box w b2 c2 T2) (h3 : Box w b3 c3 T3) (hw : Below w0.heap.size w0 w) (hb : Below w.heap.size w w') : Box w' b0 c0 T0 ∧ Box w' b1 c1 T1 ∧ Box w' b2 c2 T2 ∧ Box w' b3 c3 T3 ∧ Below w0.heap.size w0 w' ∧ (((∀ i, w'.cell? ⟨b0, i, none⟩ = c0[i]?) ∧ (∀ i, w'.frozen? ⟨b0, i, none⟩ = false) ∧ ((b0 = w'.heap.size) = False) ∧ ((w'.heap.size = b0) = False)) ∧ ((∀ i, w'.cell? ⟨b1, i, none⟩ = c1[i]?) ∧ (∀ i, w'.frozen? ⟨b1, i, none⟩ = false) ∧ ((b1 = w'.heap.size) = False) ∧ ((w'.heap.size = b1) = False)) ∧ ((∀ i, w'.cell? ⟨b2, i, none⟩ = c2[i]?) ∧ (∀ i, w'.frozen? ⟨b2, i, none⟩ = false) ∧ ((b2 = w'.heap.size) = False) ∧ ((w'.heap.size = b2) = False)) ∧ ((∀ i, w'.cell? ⟨b3, i, none⟩ = c3[i]?) ∧ (∀ i, w'.frozen? ⟨b3, i, none⟩ = false) ∧ ((b3 = w'.heap.size) = False) ∧ ((w'.heap.size = b3) = False))) :=
 ⟨h0.ext hb rfl, h1.ext hb rfl, h2.ext hb rfl, h3.ext hb rfl, hw.trans (hb.mono hw.size), ⟨(h0.ext hb rfl).f, (h1.ext hb rfl).f, (h2.ext hb rfl).f, (h3.ext hb rfl).f⟩⟩
theorem X5 {w0 w w' : World} {b0 b1 b2 b3 b4 : Nat} {c0 c1 c2 c3 c4 : List Value} {T0 T1 T2 T3 T4 : TypeId} (h0 : Box w b0 c0 T0) (h1 : Box w b1 c1 T1) (h2 : Box w b2 c2 T2) (h3 : Box w b3 c3 T3) (h4 : Box w b4 c4 T4) (hw : Below w0.heap.size w0 w) (hb : Below w.heap.size w w') : Box w' b0 c0 T0 ∧ Box w' b1 c1 T1 ∧ Box w' b2 c2 T2 ∧ Box w' b3 c3 T3 ∧ Box w' b4 c4 T4 ∧ Below w0.heap.size w0 w' ∧ (((∀ i, w'.cell? ⟨b0, i, none⟩ = c0[i]?) ∧ (∀ i, w'.frozen? ⟨b0, i, none⟩ = false) ∧ ((b0 = w'.heap.size) = False) ∧ ((w'.heap.size = b0) = False)) ∧ ((∀ i, w'.cell? ⟨b1, i, none⟩ = c1[i]?) ∧ (∀ i, w'.frozen? ⟨b1, i, none⟩ = false) ∧ ((b1 = w'.heap.size) = False) ∧ ((w'.heap.size = b1) = False)) ∧ ((∀ i, w'.cell? ⟨b2, i, none⟩ = c2[i]?) ∧ (∀ i, w'.frozen? ⟨b2, i, none⟩ = false) ∧ ((b2 = w'.heap.size) = False) ∧ ((w'.heap.size = b2) = False)) ∧ ((∀ i, w'.cell? ⟨b3, i, none⟩ = c3[i]?) ∧ (∀ i, w'.frozen? ⟨b3, i, none⟩ = false) ∧ ((b3 = w'.heap.size) = False) ∧ ((w'.heap.size = b3) = False)) ∧ ((∀ i, w'.cell? ⟨b4, i, none⟩ = c4[i]?) ∧ (∀ i, w'.frozen? ⟨b4, i, none⟩ = false) ∧ ((b4 = w'.heap.size) = False) ∧ ((w'.heap.size = b4) = False))) :=
 ⟨h0.ext hb rfl, h1.ext hb rfl, h2.ext hb rfl, h3.ext hb rfl, h4.ext hb rfl, hw.trans (hb.mono hw.size), ⟨(h0.ext hb rfl).f, (h1.ext hb rfl).f, (h2.ext hb rfl).f, (h3.ext hb rfl).f, (h4.ext hb rfl).f⟩⟩
theorem X6 {w0 w w' : World} {b0 b1 b2 b3 b4 b5 : Nat} {c0 c1 c2 c3 c4 c5 : List Value} {T0 T1 T2 T3 T4 T5 : TypeId} (h0 : Box w b0 c0 T0) (h1 : Box w b1 c1 T1) (h2 : Box w b2 c2 T2) (h3 : Box w b3 c3 T3) (h4 : Box w b4 c4 T4) (h5 : Box w b5 c5 T5) (hw : Below w0.heap.size w0 w) (hb : Below w.heap.size w w') : Box w' b0 c0 T0 ∧ Box w' b1 c1 T1 ∧ Box w' b2 c2 T2 ∧ Box w' b3 c3 T3 ∧ Box w' b4 c4 T4 ∧ Box w' b5 c5 T5 ∧ Below w0.heap.size w0 w' ∧ (((∀ i, w'.cell? ⟨b0, i, none⟩ = c0[i]?) ∧ (∀ i, w'.frozen? ⟨b0, i, none⟩ = false) ∧ ((b0 = w'.heap.size) = False) ∧ ((w'.heap.size = b0) = False)) ∧ ((∀ i, w'.cell? ⟨b1, i, none⟩ = c1[i]?) ∧ (∀ i, w'.frozen? ⟨b1, i, none⟩ = false) ∧ ((b1 = w'.heap.size) = False) ∧ ((w'.heap.size = b1) = False)) ∧ ((∀ i, w'.cell? ⟨b2, i, none⟩ = c2[i]?) ∧ (∀ i, w'.frozen? ⟨b2, i, none⟩ = false) ∧ ((b2 = w'.heap.size) = False) ∧ ((w'.heap.size = b2) = False)) ∧ ((∀ i, w'.cell? ⟨b3, i, none⟩ = c3[i]?) ∧ (∀ i, w'.frozen? ⟨b3, i, none⟩ = false) ∧ ((b3 = w'.heap.size) = False) ∧ ((w'.heap.size = b3) = False)) ∧ ((∀ i, w'.cell? ⟨b4, i, none⟩ = c4[i]?) ∧ (∀ i, w'.frozen? ⟨b4, i, none⟩ = false) ∧ ((b4 = w'.heap.size) = False) ∧ ((w'.heap.size = b4) = False)) ∧ ((∀ i, w'.cell? ⟨b5, i, none⟩ = c5[i]?) ∧ (∀ i, w'.frozen? ⟨b5, i, none⟩ = false) ∧ ((b5 = w'.heap.size) = False) ∧ ((w'.heap.size = b5) = False))) :=
 ⟨h0.ext hb rfl, h1.ext hb rfl, h2.ext hb rfl, h3.ext hb rfl, h4.ext hb rfl, h5.ext hb rfl, hw.trans (hb.mono hw.size), ⟨(h0.ext hb rfl).f, (h1.ext hb rfl).f, (h2.ext hb rfl).f, (h3.ext hb rfl).f, (h4.ext hb rfl).f, (h5.ext hb rfl).f⟩⟩
theorem X7 {w0 w w' : World} {b0 b1 b2 b3 b4 b5 b6 : Nat} {c0 c1 c2 c3 c4 c5 c6 : List Value} {T0 T1 T2 T3 T4 T5 T6 : TypeId} (h0 : Box w b0 c0 T0) (h1 : Box w b1 c1 T1) (h2 : Box w b2 c2 T2) (h3 : Box w b3 c3 T3) (h4 : Box w b4 c4 T4) (h5 : Box w b5 c5 T5) (h6 : Box w b6 c6 T6) (hw : Below w0.heap.size w0 w) (hb : Below w.heap.size w w') : Box w' b0 c0 T0 ∧ Box w' b1 c1 T1 ∧ Box w' b2 c2 T2 ∧ Box w' b3 c3 T3 ∧ Box w' b4 c4 T4 ∧ Box w' b5 c5 T5 ∧ Box w' b6 c6 T6 ∧ Below w0.heap.size w0 w' ∧ (((∀ i, w'.cell? ⟨b0, i, none⟩ = c0[i]?) ∧ (∀ i, w'.frozen? ⟨b0, i, none⟩ = false) ∧ ((b0 = w'.heap.size) = False) ∧ ((w'.heap.size = b0) = False)) ∧ ((∀ i, w'.cell? ⟨b1, i, none⟩ = c1[i]?) ∧ (∀ i, w'.frozen? ⟨b1, i, none⟩ = false) ∧ ((b1 = w'.heap.size) = False) ∧ ((w'.heap.size = b1) = False)) ∧ ((∀ i, w'.cell? ⟨b2, i, none⟩ = c2[i]?) ∧ (∀ i, w'.frozen? ⟨b2, i, none⟩ = false) ∧ ((b2 = w'.heap.size) = False) ∧ ((w'.heap.size = b2) = False)) ∧ ((∀ i, w'.cell? ⟨b3, i, none⟩ = c3[i]?) ∧ (∀ i, w'.frozen? ⟨b3, i, none⟩ = false) ∧ ((b3 = w'.heap.size) = False) ∧ ((w'.heap.size = b3) = False)) ∧ ((∀ i, w'.cell? ⟨b4, i, none⟩ = c4[i]?) ∧ (∀ i, w'.frozen? ⟨b4, i, none⟩ = false) ∧ ((b4 = w'.heap.size) = False) ∧ ((w'.heap.size = b4) = False)) ∧ ((∀ i, w'.cell? ⟨b5, i, none⟩ = c5[i]?) ∧ (∀ i, w'.frozen? ⟨b5, i, none⟩ = false) ∧ ((b5 = w'.heap.size) = False) ∧ ((w'.heap.size = b5) = False)) ∧ ((∀ i, w'.cell? ⟨b6, i, none⟩ = c6[i]?) ∧ (∀ i, w'.frozen? ⟨b6, i, none⟩ = false) ∧ ((b6 = w'.heap.size) = False) ∧ ((w'.heap.size = b6) = False))) :=
 ⟨h0.ext hb rfl, h1.ext hb rfl, h2.ext hb rfl, h3.ext hb rfl, h4.ext hb rfl, h5.ext hb rfl, h6.ext hb rfl, hw.trans (hb.mono hw.size), ⟨(h0.ext hb rfl).f, (h1.ext hb rfl).f, (h2.ext hb rfl).f, (h3.ext hb rfl).f, (h4.ext hb rfl).f, (h5.ext hb rfl).f, (h6.ext hb rfl).f⟩⟩
theorem X8 {w0 w w' : World} {b0 b1 b2 b3 b4 b5 b6 b7 : Nat} {c0 c1 c2 c3 c4 c5 c6 c7 : List Value} {T0 T1 T2 T3 T4 T5 T6 T7 : TypeId} (h0 : Box w b0 c0 T0) (h1 : Box w b1 c1 T1) (h2 : Box w b2 c2 T2) (h3 : Box w b3 c3 T3) (h4 : Box w b4 c4 T4) (h5 : Box w b5 c5 T5) (h6 : Box w b6 c6 T6) (h7 : Box w b7 c7 T7) (hw : Below w0.heap.size w0 w) (hb : Below w.heap.size w w') : Box w' b0 c0 T0 ∧ Box w' b1 c1 T1 ∧ Box w' b2 c2 T2 ∧ Box w' b3 c3 T3 ∧ Box w' b4 c4 T4 ∧ Box w' b5 c5 T5 ∧ Box w' b6 c6 T6 ∧ Box w' b7 c7 T7 ∧ Below w0.heap.size w0 w' ∧ (((∀ i, w'.cell? ⟨b0, i, none⟩ = c0[i]?) ∧ (∀ i, w'.frozen? ⟨b0, i, none⟩ = false) ∧ ((b0 = w'.heap.size) = False) ∧ ((w'.heap.size = b0) = False)) ∧ ((∀ i, w'.cell? ⟨b1, i, none⟩ = c1[i]?) ∧ (∀ i, w'.frozen? ⟨b1, i, none⟩ = false) ∧ ((b1 = w'.heap.size) = False) ∧ ((w'.heap.size = b1) = False)) ∧ ((∀ i, w'.cell? ⟨b2, i, none⟩ = c2[i]?) ∧ (∀ i, w'.frozen? ⟨b2, i, none⟩ = false) ∧ ((b2 = w'.heap.size) = False) ∧ ((w'.heap.size = b2) = False)) ∧ ((∀ i, w'.cell? ⟨b3, i, none⟩ = c3[i]?) ∧ (∀ i, w'.frozen? ⟨b3, i, none⟩ = false) ∧ ((b3 = w'.heap.size) = False) ∧ ((w'.heap.size = b3) = False)) ∧ ((∀ i, w'.cell? ⟨b4, i, none⟩ = c4[i]?) ∧ (∀ i, w'.frozen? ⟨b4, i, none⟩ = false) ∧ ((b4 = w'.heap.size) = False) ∧ ((w'.heap.size = b4) = False)) ∧ ((∀ i, w'.cell? ⟨b5, i, none⟩ = c5[i]?) ∧ (∀ i, w'.frozen? ⟨b5, i, none⟩ = false) ∧ ((b5 = w'.heap.size) = False) ∧ ((w'.heap.size = b5) = False)) ∧ ((∀ i, w'.cell? ⟨b6, i, none⟩ = c6[i]?) ∧ (∀ i, w'.frozen? ⟨b6, i, none⟩ = false) ∧ ((b6 = w'.heap.size) = False) ∧ ((w'.heap.size = b6) = False)) ∧ ((∀ i, w'.cell? ⟨b7, i, none⟩ = c7[i]?) ∧ (∀ i, w'.frozen? ⟨b7, i, none⟩ = false) ∧ ((b7 = w'.heap.size) = False) ∧ ((w'.heap.size = b7) = False))) :=
 ⟨h0.ext hb rfl, h1.ext hb rfl, h2.ext hb rfl, h3.ext hb rfl, h4.ext hb rfl, h5.ext hb rfl, h6.ext hb rfl, h7.ext hb rfl, hw.trans (hb.mono hw.size), ⟨(h0.ext hb rfl).f, (h1.ext hb rfl).f, (h2.ext hb rfl).f, (h3.ext hb rfl).f, (h4.ext hb rfl).f, (h5.ext hb rfl).f, (h6.ext hb rfl).f, (h7.ext hb rfl).f⟩⟩
theorem X9 {w0 w w' : World} {b0 b1 b2 b3 b4 b5 b6 b7 b8 : Nat} {c0 c1 c2 c3 c4 c5 c6 c7 c8 : List Value} {T0 T1 T2 T3 T4 T5 T6 T7 T8 : TypeId} (h0 : Box w b0 c0 T0) (h1 : Box w b1 c1 T1) (h2 : Box w b2 c2 T2) (h3 : Box w b3 c3 T3) (h4 : Box w b4 c4 T4) (h5 : Box w b5 c5 T5) (h6 : Box w b6 c6 T6) (h7 : Box w b7 c7 T7) (h8 : Box w b8 c8 T8) (hw : Below w0.heap.size w0 w) (hb : Below w.heap.size w w') : Box w' b0 c0 T0 ∧ Box w' b1 c1 T1 ∧ Box w' b2 c2 T2 ∧ Box w' b3 c3 T3 ∧ Box w' b4 c4 T4 ∧ Box w' b5 c5 T5 ∧ Box w' b6 c6 T6 ∧ Box w' b7 c7 T7 ∧ Box w' b8 c8 T8 ∧ Below w0.heap.size w0 w' ∧ (((∀ i, w'.cell? ⟨b0, i, none⟩ = c0[i]?) ∧ (∀ i, w'.frozen? ⟨b0, i, none⟩ = false) ∧ ((b0 = w'.heap.size) = False) ∧ ((w'.heap.size = b0) = False)) ∧ ((∀ i, w'.cell? ⟨b1, i, none⟩ = c1[i]?) ∧ (∀ i, w'.frozen? ⟨b1, i, none⟩ = false) ∧ ((b1 = w'.heap.size) = False) ∧ ((w'.heap.size = b1) = False)) ∧ ((∀ i, w'.cell? ⟨b2, i, none⟩ = c2[i]?) ∧ (∀ i, w'.frozen? ⟨b2, i, none⟩ = false) ∧ ((b2 = w'.heap.size) = False) ∧ ((w'.heap.size = b2) = False)) ∧ ((∀ i, w'.cell? ⟨b3, i, none⟩ = c3[i]?) ∧ (∀ i, w'.frozen? ⟨b3, i, none⟩ = false) ∧ ((b3 = w'.heap.size) = False) ∧ ((w'.heap.size = b3) = False)) ∧ ((∀ i, w'.cell? ⟨b4, i, none⟩ = c4[i]?) ∧ (∀ i, w'.frozen? ⟨b4, i, none⟩ = false) ∧ ((b4 = w'.heap.size) = False) ∧ ((w'.heap.size = b4) = False)) ∧ ((∀ i, w'.cell? ⟨b5, i, none⟩ = c5[i]?) ∧ (∀ i, w'.frozen? ⟨b5, i, none⟩ = false) ∧ ((b5 = w'.heap.size) = False) ∧ ((w'.heap.size = b5) = False)) ∧ ((∀ i, w'.cell? ⟨b6, i, none⟩ = c6[i]?) ∧ (∀ i, w'.frozen? ⟨b6, i, none⟩ = false) ∧ ((b6 = w'.heap.size) = False) ∧ ((w'.heap.size = b6) = False)) ∧ ((∀ i, w'.cell? ⟨b7, i, none⟩ = c7[i]?) ∧ (∀ i, w'.frozen? ⟨b7, i, none⟩ = false) ∧ ((b7 = w'.heap.size) = False) ∧ ((w'.heap.size = b7) = False)) ∧ ((∀ i, w'.cell? ⟨b8, i, none⟩ = c8[i]?) ∧ (∀ i, w'.frozen? ⟨b8, i, none⟩ = false) ∧ ((b8 = w'.heap.size) = False) ∧ ((w'.heap.size = b8) = False))) :=
 ⟨h0.ext hb rfl, h1.ext hb rfl, h2.ext hb rfl, h3.ext hb rfl, h4.ext hb rfl, h5.ext hb rfl, h6.ext hb rfl, h7.ext hb rfl, h8.ext hb rfl, hw.trans (hb.mono hw.size), ⟨(h0.ext hb rfl).f, (h1.ext hb rfl).f, (h2.ext hb rfl).f, (h3.ext hb rfl).f, (h4.ext hb rfl).f, (h5.ext hb rfl).f, (h6.ext hb rfl).f, (h7.ext hb rfl).f, (h8.ext hb rfl).f⟩⟩
theorem N1 {w W : World} {c0 : List Value} {T0 : TypeId} (hW : W = (w.alloc (.cells c0.toArray T0))) : Box W (w.heap.size) c0 T0 ∧ Below w.heap.size w W :=
 ⟨by rw [hW]; exact Box.new rfl, by rw [hW]; go_grown⟩
theorem N2 {w W : World} {c0 c1 : List Value} {T0 T1 : TypeId} (hW : W = ((w.alloc (.cells c0.toArray T0)).alloc (.cells c1.toArray T1))) : Box W (w.heap.size) c0 T0 ∧ Box W (w.heap.size + 1) c1 T1 ∧ Below w.heap.size w W :=
 ⟨by rw [hW]; exact (Box.new rfl).old _, by rw [hW]; exact Box.new (by simp), by rw [hW]; go_grown⟩
theorem N3 {w W : World} {c0 c1 c2 : List Value} {T0 T1 T2 : TypeId} (hW : W = (((w.alloc (.cells c0.toArray T0)).alloc (.cells c1.toArray T1)).alloc (.cells c2.toArray T2))) : Box W (w.heap.size) c0 T0 ∧ Box W (w.heap.size + 1) c1 T1 ∧ Box W (w.heap.size + 1 + 1) c2 T2 ∧ Below w.heap.size w W :=
 ⟨by rw [hW]; exact ((Box.new rfl).old _).old _, by rw [hW]; exact (Box.new (by simp)).old _, by rw [hW]; exact Box.new (by simp), by rw [hW]; go_grown⟩
theorem N4 {w W : World} {c0 c1 c2 c3 : List Value} {T0 T1 T2 T3 : TypeId} (hW : W = ((((w.alloc (.cells c0.toArray T0)).alloc (.cells c1.toArray T1)).alloc (.cells c2.toArray T2)).alloc (.cells c3.toArray T3))) : Box W (w.heap.size) c0 T0 ∧ Box W (w.heap.size + 1) c1 T1 ∧ Box W (w.heap.size + 1 + 1) c2 T2 ∧ Box W (w.heap.size + 1 + 1 + 1) c3 T3 ∧ Below w.heap.size w W :=
 ⟨by rw [hW]; exact (((Box.new rfl).old _).old _).old _, by rw [hW]; exact ((Box.new (by simp)).old _).old _, by rw [hW]; exact (Box.new (by simp)).old _, by rw [hW]; exact Box.new (by simp), by rw [hW]; go_grown⟩
theorem N5 {w W : World} {c0 c1 c2 c3 c4 : List Value} {T0 T1 T2 T3 T4 : TypeId} (hW : W = (((((w.alloc (.cells c0.toArray T0)).alloc (.cells c1.toArray T1)).alloc (.cells c2.toArray T2)).alloc (.cells c3.toArray T3)).alloc (.cells c4.toArray T4))) : Box W (w.heap.size) c0 T0 ∧ Box W (w.heap.size + 1) c1 T1 ∧ Box W (w.heap.size + 1 + 1) c2 T2 ∧ Box W (w.heap.size + 1 + 1 + 1) c3 T3 ∧ Box W (w.heap.size + 1 + 1 + 1 + 1) c4 T4 ∧ Below w.heap.size w W :=
 ⟨by rw [hW]; exact ((((Box.new rfl).old _).old _).old _).old _, by rw [hW]; exact (((Box.new (by simp)).old _).old _).old _, by rw [hW]; exact ((Box.new (by simp)).old _).old _, by rw [hW]; exact (Box.new (by simp)).old _, by rw [hW]; exact Box.new (by simp), by rw [hW]; go_grown⟩
theorem M0 {w0 w W : World} {z : Nat} {c : List Value} {T : TypeId} (hW : W = w.alloc (.cells c.toArray T)) (hz : w.heap.size = z)  (hw : Below w0.heap.size w0 w) : w0.heap.size ≤ z ∧ Box W z c T ∧ Below w0.heap.size w0 W :=
 ⟨by rw [← hz]; exact hw.size, by rw [hW]; exact Box.new hz.symm, by have hl := hw.size; rw [hW]; go_grown⟩
theorem M1 {w0 w W : World} {z : Nat} {c : List Value} {T : TypeId} {b0 : Nat} {c0 : List Value} {T0 : TypeId} (hW : W = w.alloc (.cells c.toArray T)) (hz : w.heap.size = z) (h0 : Box w b0 c0 T0) (hw : Below w0.heap.size w0 w) : b0 < z ∧ w0.heap.size ≤ z ∧ Box W z c T ∧ Box W b0 c0 T0 ∧ Below w0.heap.size w0 W :=
 ⟨by rw [← hz]; exact h0.lt, by rw [← hz]; exact hw.size, by rw [hW]; exact Box.new hz.symm, by rw [hW]; exact h0.old _, by have hl := hw.size; rw [hW]; go_grown⟩
theorem M2 {w0 w W : World} {z : Nat} {c : List Value} {T : TypeId} {b0 b1 : Nat} {c0 c1 : List Value} {T0 T1 : TypeId} (hW : W = w.alloc (.cells c.toArray T)) (hz : w.heap.size = z) (h0 : Box w b0 c0 T0) (h1 : Box w b1 c1 T1) (hw : Below w0.heap.size w0 w) : b0 < z ∧ b1 < z ∧ w0.heap.size ≤ z ∧ Box W z c T ∧ Box W b0 c0 T0 ∧ Box W b1 c1 T1 ∧ Below w0.heap.size w0 W :=
 ⟨by rw [← hz]; exact h0.lt, by rw [← hz]; exact h1.lt, by rw [← hz]; exact hw.size, by rw [hW]; exact Box.new hz.symm, by rw [hW]; exact h0.old _, by rw [hW]; exact h1.old _, by have hl := hw.size; rw [hW]; go_grown⟩
theorem M3 {w0 w W : World} {z : Nat} {c : List Value} {T : TypeId} {b0 b1 b2 : Nat} {c0 c1 c2 : List Value} {T0 T1 T2 : TypeId} (hW : W = w.alloc (.cells c.toArray T)) (hz : w.heap.size = z) (h0 : Box w b0 c0 T0) (h1 : Box w b1 c1 T1) (h2 : Box w b2 c2 T2) (hw : Below w0.heap.size w0 w) : b0 < z ∧ b1 < z ∧ b2 < z ∧ w0.heap.size ≤ z ∧ Box W z c T ∧ Box W b0 c0 T0 ∧ Box W b1 c1 T1 ∧ Box W b2 c2 T2 ∧ Below w0.heap.size w0 W :=
 ⟨by rw [← hz]; exact h0.lt, by rw [← hz]; exact h1.lt, by rw [← hz]; exact h2.lt, by rw [← hz]; exact hw.size, by rw [hW]; exact Box.new hz.symm, by rw [hW]; exact h0.old _, by rw [hW]; exact h1.old _, by rw [hW]; exact h2.old _, by have hl := hw.size; rw [hW]; go_grown⟩
theorem M4 {w0 w W : World} {z : Nat} {c : List Value} {T : TypeId} {b0 b1 b2 b3 : Nat} {c0 c1 c2 c3 : List Value} {T0 T1 T2 T3 : TypeId} (hW : W = w.alloc (.cells c.toArray T)) (hz : w.heap.size = z) (h0 : Box w b0 c0 T0) (h1 : Box w b1 c1 T1) (h2 : Box w b2 c2 T2) (h3 : Box w b3 c3 T3) (hw : Below w0.heap.size w0 w) : b0 < z ∧ b1 < z ∧ b2 < z ∧ b3 < z ∧ w0.heap.size ≤ z ∧ Box W z c T ∧ Box W b0 c0 T0 ∧ Box W b1 c1 T1 ∧ Box W b2 c2 T2 ∧ Box W b3 c3 T3 ∧ Below w0.heap.size w0 W :=
 ⟨by rw [← hz]; exact h0.lt, by rw [← hz]; exact h1.lt, by rw [← hz]; exact h2.lt, by rw [← hz]; exact h3.lt, by rw [← hz]; exact hw.size, by rw [hW]; exact Box.new hz.symm, by rw [hW]; exact h0.old _, by rw [hW]; exact h1.old _, by rw [hW]; exact h2.old _, by rw [hW]; exact h3.old _, by have hl := hw.size; rw [hW]; go_grown⟩
theorem M5 {w0 w W : World} {z : Nat} {c : List Value} {T : TypeId} {b0 b1 b2 b3 b4 : Nat} {c0 c1 c2 c3 c4 : List Value} {T0 T1 T2 T3 T4 : TypeId} (hW : W = w.alloc (.cells c.toArray T)) (hz : w.heap.size = z) (h0 : Box w b0 c0 T0) (h1 : Box w b1 c1 T1) (h2 : Box w b2 c2 T2) (h3 : Box w b3 c3 T3) (h4 : Box w b4 c4 T4) (hw : Below w0.heap.size w0 w) : b0 < z ∧ b1 < z ∧ b2 < z ∧ b3 < z ∧ b4 < z ∧ w0.heap.size ≤ z ∧ Box W z c T ∧ Box W b0 c0 T0 ∧ Box W b1 c1 T1 ∧ Box W b2 c2 T2 ∧ Box W b3 c3 T3 ∧ Box W b4 c4 T4 ∧ Below w0.heap.size w0 W :=
 ⟨by rw [← hz]; exact h0.lt, by rw [← hz]; exact h1.lt, by rw [← hz]; exact h2.lt, by rw [← hz]; exact h3.lt, by rw [← hz]; exact h4.lt, by rw [← hz]; exact hw.size, by rw [hW]; exact Box.new hz.symm, by rw [hW]; exact h0.old _, by rw [hW]; exact h1.old _, by rw [hW]; exact h2.old _, by rw [hW]; exact h3.old _, by rw [hW]; exact h4.old _, by have hl := hw.size; rw [hW]; go_grown⟩
theorem M6 {w0 w W : World} {z : Nat} {c : List Value} {T : TypeId} {b0 b1 b2 b3 b4 b5 : Nat} {c0 c1 c2 c3 c4 c5 : List Value} {T0 T1 T2 T3 T4 T5 : TypeId} (hW : W = w.alloc (.cells c.toArray T)) (hz : w.heap.size = z) (h0 : Box w b0 c0 T0) (h1 : Box w b1 c1 T1) (h2 : Box w b2 c2 T2) (h3 : Box w b3 c3 T3) (h4 : Box w b4 c4 T4) (h5 : Box w b5 c5 T5) (hw : Below w0.heap.size w0 w) : b0 < z ∧ b1 < z ∧ b2 < z ∧ b3 < z ∧ b4 < z ∧ b5 < z ∧ w0.heap.size ≤ z ∧ Box W z c T ∧ Box W b0 c0 T0 ∧ Box W b1 c1 T1 ∧ Box W b2 c2 T2 ∧ Box W b3 c3 T3 ∧ Box W b4 c4 T4 ∧ Box W b5 c5 T5 ∧ Below w0.heap.size w0 W :=
 ⟨by rw [← hz]; exact h0.lt, by rw [← hz]; exact h1.lt, by rw [← hz]; exact h2.lt, by rw [← hz]; exact h3.lt, by rw [← hz]; exact h4.lt, by rw [← hz]; exact h5.lt, by rw [← hz]; exact hw.size, by rw [hW]; exact Box.new hz.symm, by rw [hW]; exact h0.old _, by rw [hW]; exact h1.old _, by rw [hW]; exact h2.old _, by rw [hW]; exact h3.old _, by rw [hW]; exact h4.old _, by rw [hW]; exact h5.old _, by have hl := hw.size; rw [hW]; go_grown⟩
theorem M7 {w0 w W : World} {z : Nat} {c : List Value} {T : TypeId} {b0 b1 b2 b3 b4 b5 b6 : Nat} {c0 c1 c2 c3 c4 c5 c6 : List Value} {T0 T1 T2 T3 T4 T5 T6 : TypeId} (hW : W = w.alloc (.cells c.toArray T)) (hz : w.heap.size = z) (h0 : Box w b0 c0 T0) (h1 : Box w b1 c1 T1) (h2 : Box w b2 c2 T2) (h3 : Box w b3 c3 T3) (h4 : Box w b4 c4 T4) (h5 : Box w b5 c5 T5) (h6 : Box w b6 c6 T6) (hw : Below w0.heap.size w0 w) : b0 < z ∧ b1 < z ∧ b2 < z ∧ b3 < z ∧ b4 < z ∧ b5 < z ∧ b6 < z ∧ w0.heap.size ≤ z ∧ Box W z c T ∧ Box W b0 c0 T0 ∧ Box W b1 c1 T1 ∧ Box W b2 c2 T2 ∧ Box W b3 c3 T3 ∧ Box W b4 c4 T4 ∧ Box W b5 c5 T5 ∧ Box W b6 c6 T6 ∧ Below w0.heap.size w0 W :=
 ⟨by rw [← hz]; exact h0.lt, by rw [← hz]; exact h1.lt, by rw [← hz]; exact h2.lt, by rw [← hz]; exact h3.lt, by rw [← hz]; exact h4.lt, by rw [← hz]; exact h5.lt, by rw [← hz]; exact h6.lt, by rw [← hz]; exact hw.size, by rw [hW]; exact Box.new hz.symm, by rw [hW]; exact h0.old _, by rw [hW]; exact h1.old _, by rw [hW]; exact h2.old _, by rw [hW]; exact h3.old _, by rw [hW]; exact h4.old _, by rw [hW]; exact h5.old _, by rw [hW]; exact h6.old _, by have hl := hw.size; rw [hW]; go_grown⟩
theorem M8 {w0 w W : World} {z : Nat} {c : List Value} {T : TypeId} {b0 b1 b2 b3 b4 b5 b6 b7 : Nat} {c0 c1 c2 c3 c4 c5 c6 c7 : List Value} {T0 T1 T2 T3 T4 T5 T6 T7 : TypeId} (hW : W = w.alloc (.cells c.toArray T)) (hz : w.heap.size = z) (h0 : Box w b0 c0 T0) (h1 : Box w b1 c1 T1) (h2 : Box w b2 c2 T2) (h3 : Box w b3 c3 T3) (h4 : Box w b4 c4 T4) (h5 : Box w b5 c5 T5) (h6 : Box w b6 c6 T6) (h7 : Box w b7 c7 T7) (hw : Below w0.heap.size w0 w) : b0 < z ∧ b1 < z ∧ b2 < z ∧ b3 < z ∧ b4 < z ∧ b5 < z ∧ b6 < z ∧ b7 < z ∧ w0.heap.size ≤ z ∧ Box W z c T ∧ Box W b0 c0 T0 ∧ Box W b1 c1 T1 ∧ Box W b2 c2 T2 ∧ Box W b3 c3 T3 ∧ Box W b4 c4 T4 ∧ Box W b5 c5 T5 ∧ Box W b6 c6 T6 ∧ Box W b7 c7 T7 ∧ Below w0.heap.size w0 W :=
 ⟨by rw [← hz]; exact h0.lt, by rw [← hz]; exact h1.lt, by rw [← hz]; exact h2.lt, by rw [← hz]; exact h3.lt, by rw [← hz]; exact h4.lt, by rw [← hz]; exact h5.lt, by rw [← hz]; exact h6.lt, by rw [← hz]; exact h7.lt, by rw [← hz]; exact hw.size, by rw [hW]; exact Box.new hz.symm, by rw [hW]; exact h0.old _, by rw [hW]; exact h1.old _, by rw [hW]; exact h2.old _, by rw [hW]; exact h3.old _, by rw [hW]; exact h4.old _, by rw [hW]; exact h5.old _, by rw [hW]; exact h6.old _, by rw [hW]; exact h7.old _, by have hl := hw.size; rw [hW]; go_grown⟩
end Go.Proofs.YtjkfakaehjmnbaaGreat
