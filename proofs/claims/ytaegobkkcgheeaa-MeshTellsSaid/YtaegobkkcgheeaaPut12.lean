/- Put together: Map, Key, TrA. -/
import Derived.Maps.RangeWalk
import Derived.Maps.OwnSet
import Derived.DeepKeys4
import Derived.Below
import Derived.Test.YtaegobkkcgheeaaRows
import Derived.Test.YtaegobkkcgheeaaPut0
import Derived.KernelRfl
import Derived.Test.YtaegobkkcgheeaaPut11
import Derived.Test.YtaegobkkcgheeaaPut1
import Derived.WalkKit
import Derived.WalkSpells
import Derived.WalkLawsBesides
import Derived.Laws.Externs
import Derived.Deep.QuietTactic
import Derived.BigQuiet
import Derived.Lib.Hide
import Derived.Handy
namespace Go.Proofs.Ytaegobkkcgheeaa
open Go Go.ChangeMaps Go.MapKept Go.Maps Go.RowKit

section
variable {α β : Type} [DecidableEq α]

def getE (E : List (α × β)) (x : α) : Option β := (E.find? fun p => decide (p.1 = x)).map (·.2)
def delE (E : List (α × β)) (x : α) : List (α × β) := E.filter fun p => decide (p.1 ≠ x)
def putE (E : List (α × β)) (x : α) (v : β) : List (α × β) := (x, v) :: delE E x
def KeysNodup (E : List (α × β)) : Prop := (E.map (·.1)).Nodup

omit [DecidableEq α] in
theorem KeysNodup.perm {E E' : List (α × β)} (h : KeysNodup E) (p : E.Perm E') : KeysNodup E' := (p.map _).nodup_iff.1 h
theorem getE_none {E : List (α × β)} {x : α} (h : ∀ p ∈ E, p.1 ≠ x) : getE E x = none := by
  unfold getE
  rw [List.find?_eq_none.2 (fun p hp => by simpa using h p hp)]
  rfl
theorem getE_none_iff {E : List (α × β)} {x : α} : getE E x = none ↔ ∀ p ∈ E, p.1 ≠ x := by
  refine ⟨fun h p hp e => ?_, getE_none⟩
  unfold getE at h
  rw [Option.map_eq_none_iff, List.find?_eq_none] at h
  exact absurd e (by simpa using h p hp)
omit [DecidableEq α] in
theorem pairs_inj {E : List (α × β)} (hn : KeysNodup E) {p q : α × β} (hp : p ∈ E) (hq : q ∈ E) (h : p.1 = q.1) : p = q := by
  unfold KeysNodup at hn
  induction E with
  | nil => simp at hp
  | cons a r ih =>
    simp only [List.map_cons, List.nodup_cons, List.mem_map, not_exists, not_and] at hn
    rcases List.mem_cons.1 hp with rfl | hp'
    · rcases List.mem_cons.1 hq with rfl | hq'
      · rfl
      · exact absurd h.symm (hn.1 q hq')
    · rcases List.mem_cons.1 hq with rfl | hq'
      · exact absurd h (hn.1 p hp')
      · exact ih hn.2 hp' hq'
theorem getE_some {E : List (α × β)} (hn : KeysNodup E) {x : α} {v : β} (h : (x, v) ∈ E) : getE E x = some v := by
  unfold getE
  cases hf : E.find? fun p => decide (p.1 = x) with
  | none =>
    rw [List.find?_eq_none] at hf
    exact absurd (hf _ h) (by simp)
  | some q =>
    have h1 := List.mem_of_find?_eq_some hf
    have h2 := List.find?_some hf
    simp only [decide_eq_true_eq] at h2
    rw [pairs_inj hn h1 h h2]
    rfl
theorem getE_mem {E : List (α × β)} {x : α} {v : β} (h : getE E x = some v) : (x, v) ∈ E := by
  unfold getE at h
  cases hf : E.find? fun p => decide (p.1 = x) with
  | none => rw [hf] at h; cases h
  | some q =>
    rw [hf] at h
    have h1 := List.mem_of_find?_eq_some hf
    have h2 := List.find?_some hf
    simp only [decide_eq_true_eq] at h2
    simp only [Option.map_some, Option.some.injEq] at h
    rw [← h2, ← h]; exact h1
theorem getE_iff {E : List (α × β)} (hn : KeysNodup E) {x : α} {v : β} : getE E x = some v ↔ (x, v) ∈ E := ⟨getE_mem, getE_some hn⟩
theorem getE_perm {E E' : List (α × β)} (hn : KeysNodup E) (hp : E.Perm E') (x : α) : getE E x = getE E' x := by
  cases h : getE E' x with
  | none => rw [getE_none_iff] at h ⊢; exact fun p hp' => h p (hp.mem_iff.1 hp')
  | some v => exact getE_some hn (hp.mem_iff.2 (getE_mem h))
theorem delE_none {E : List (α × β)} {x : α} (h : ∀ p ∈ E, p.1 ≠ x) : delE E x = E := List.filter_eq_self.2 fun p hp => by simpa using h p hp
theorem delE_perm {E : List (α × β)} (hn : KeysNodup E) {p : α × β} (hp : p ∈ E) : E.Perm (p :: delE E p.1) := by
  unfold KeysNodup at hn
  induction E with
  | nil => simp at hp
  | cons a r ih =>
    simp only [List.map_cons, List.nodup_cons, List.mem_map, not_exists, not_and] at hn
    rcases List.mem_cons.1 hp with rfl | hp'
    · have : delE (p :: r) p.1 = r := by
        unfold delE
        rw [List.filter_cons_of_neg (by simp)]
        exact List.filter_eq_self.2 fun q hq => by simpa using hn.1 q hq
      rw [this]
    · have hne : a.1 ≠ p.1 := fun e => hn.1 p hp' e.symm
      have : delE (a :: r) p.1 = a :: delE r p.1 := by
        unfold delE
        rw [List.filter_cons_of_pos (by simpa using hne)]
      rw [this]
      exact ((ih hn.2 hp').cons a).trans (List.Perm.swap _ _ _)
theorem delE_nodup {E : List (α × β)} (hn : KeysNodup E) (x : α) : KeysNodup (delE E x) := by
  unfold KeysNodup delE
  exact (List.filter_sublist.map _).nodup hn
theorem putE_nodup {E : List (α × β)} (hn : KeysNodup E) (x : α) (v : β) : KeysNodup (putE E x v) := by
  unfold KeysNodup putE
  simp only [List.map_cons, List.nodup_cons]
  refine ⟨?_, delE_nodup hn x⟩
  simp [delE]
theorem getE_put {E : List (α × β)} (x y : α) (v : β) : getE (putE E x v) y = if x = y then some v else getE E y := by
  unfold getE putE
  by_cases h : x = y
  · simp [h]
  · simp only [List.find?_cons, h, if_false, decide_false]
    unfold delE
    congr 1
    rw [List.find?_filter]
    congr 1
    funext p
    by_cases hp : p.1 = y
    · simp [hp, Ne.symm h]
    · simp [hp]
theorem getE_del {E : List (α × β)} (x y : α) : getE (delE E x) y = if x = y then none else getE E y := by
  by_cases h : x = y
  · subst h; rw [if_pos rfl]; exact getE_none fun p hp => by simpa [delE] using (List.mem_filter.1 hp).2
  · rw [if_neg h]
    unfold getE delE
    congr 1
    rw [List.find?_filter]
    congr 1
    funext p
    by_cases hp : p.1 = y
    · simp [hp, Ne.symm h]
    · simp [hp]
theorem mem_delE {E : List (α × β)} {x : α} {p : α × β} : p ∈ delE E x ↔ p ∈ E ∧ p.1 ≠ x := by simp [delE]

/-- How keys and elements of a map's type lie in memory; 'ok': the keys that may be. -/
structure KV (P : Program) (k e t : TypeId) (eK : α → Value) (ok : α → Prop) : Prop where
  keyed : Keyed P k
  ty : P.underlying t = some (.map k e)
  key : ∀ x, ok x → ∃ l, keyOf P k (eK x) = some l
  inj : ∀ {x y}, eK x = eK y → x = y

/-- Block b is a map of just these pairs. -/
def HoldsMap (eK : α → Value) (eV : β → Value) (ok : α → Prop) (w : World) (b : Nat) (E : List (α × β)) : Prop :=
  ∃ es clock, w.heap[b]? = some (.map es clock) ∧ Stamped es clock ∧ KeysNodup E ∧ (∀ p ∈ E, ok p.1) ∧ (es.toList.map fun x => (x.key, x.val)).Perm (E.map fun p => (eK p.1, eV p.2))

variable {P : Program} {k e t : TypeId} {eK : α → Value} {eV : β → Value} {ok : α → Prop} {w : World} {b : Nat} {E : List (α × β)}

omit [DecidableEq α] in
theorem HoldsMap.lt (h : HoldsMap eK eV ok w b E) : b < w.heap.size := by
  obtain ⟨es, clock, hb, _⟩ := h
  exact (Array.getElem?_eq_some_iff.1 hb).1
omit [DecidableEq α] in
theorem HoldsMap.nodup (h : HoldsMap eK eV ok w b E) : KeysNodup E := h.elim fun _ h => h.elim fun _ h => h.2.2.1
omit [DecidableEq α] in
theorem HoldsMap.oks (h : HoldsMap eK eV ok w b E) : ∀ p ∈ E, ok p.1 := h.elim fun _ h => h.elim fun _ h => h.2.2.2.1
omit [DecidableEq α] in
theorem HoldsMap.perm (h : HoldsMap eK eV ok w b E) {E' : List (α × β)} (hp : E.Perm E') : HoldsMap eK eV ok w b E' := by
  obtain ⟨es, clock, hb, hs, hn, ho, hm⟩ := h
  exact ⟨es, clock, hb, hs, hn.perm hp, fun p h => ho p (hp.mem_iff.2 h), hm.trans (hp.map _)⟩
omit [DecidableEq α] in
theorem HoldsMap.kept {w' : World} {row : Option Nat} (h : HoldsMap eK eV ok w b E) (hg : w.grownBy w' row) (hne : some b ≠ row) : HoldsMap eK eV ok w' b E := by
  have hlt := h.lt
  obtain ⟨es, clock, hb, r⟩ := h
  exact ⟨es, clock, (hg.block b hlt hne).trans hb, r⟩
omit [DecidableEq α] in
theorem HoldsMap.ext {w' : World} {n : Nat} (h : HoldsMap eK eV ok w b E) (hg : Below n w w') (hn : n = w.heap.size) : HoldsMap eK eV ok w' b E := by
  have hlt := h.lt
  obtain ⟨es, clock, hb, r⟩ := h
  exact ⟨es, clock, (hg.block b (hn ▸ hlt)).trans hb, r⟩
omit [DecidableEq α] in
theorem HoldsMap.alloc (h : HoldsMap eK eV ok w b E) (o : Obj) : HoldsMap eK eV ok (w.alloc o) b E := h.kept (World.grownBy_alloc w o none) (by simp)
omit [DecidableEq α] in
theorem HoldsMap.made (w : World) : HoldsMap eK eV ok (w.alloc (.map #[] 0)) w.heap.size ([] : List (α × β)) :=
  ⟨#[], 0, (MapKept.heap_alloc w _).1, stamped_empty 0, by simp [KeysNodup], by simp, by simp⟩
omit [DecidableEq α] in
theorem HoldsMap.set_ne (h : HoldsMap eK eV ok w b E) (a : Addr) (v : Value) (hne : a.block ≠ b) : HoldsMap eK eV ok (w.setCell a v) b E := by
  obtain ⟨es, clock, hb, r⟩ := h
  refine ⟨es, clock, ?_, r⟩
  simp only [World.setCell, Array.getElem?_modify]
  rw [if_neg hne, hb]

omit [DecidableEq α] in
/-- Each entry's key reads as one. -/
theorem entry_key {es : Array MapEntry} (hp : (es.toList.map fun x => (x.key, x.val)).Perm (E.map fun p => (eK p.1, eV p.2))) :
    ∀ x ∈ es.toList, ∃ p ∈ E, x.key = eK p.1 ∧ x.val = eV p.2 := fun x hx => by
  have h1 := hp.mem_iff.1 (List.mem_map.2 ⟨x, hx, rfl⟩)
  obtain ⟨p, hp1, hp2⟩ := List.mem_map.1 h1
  simp only [Prod.mk.injEq] at hp2
  exact ⟨p, hp1, hp2.1.symm, hp2.2.symm⟩
omit [DecidableEq α] in
theorem entry_keys (V : KV P k e t eK ok) {es : Array MapEntry} (ho : ∀ p ∈ E, ok p.1) (hp : (es.toList.map fun x => (x.key, x.val)).Perm (E.map fun p => (eK p.1, eV p.2))) :
    ∀ x ∈ es.toList, ∃ l, keyOf P k x.key = some l := fun x hx => by
  obtain ⟨p, h1, h2, _⟩ := entry_key hp x hx
  obtain ⟨l, hl⟩ := V.key p.1 (ho p h1)
  exact ⟨l, by rw [h2]; exact hl⟩
omit [DecidableEq α] in
theorem no_entry {es : Array MapEntry} (hp : (es.toList.map fun x => (x.key, x.val)).Perm (E.map fun p => (eK p.1, eV p.2))) {x : α} (h : ∀ y ∈ es.toList, y.key ≠ eK x) : ∀ p ∈ E, p.1 ≠ x := fun p hp' e => by
  have h1 := hp.mem_iff.2 (List.mem_map.2 ⟨p, hp', rfl⟩)
  obtain ⟨y, hy, he⟩ := List.mem_map.1 h1
  simp only [Prod.mk.injEq] at he
  exact h y hy (by rw [he.1, e])
theorem perm_erase {γ : Type} : ∀ (l : List γ) (j : Nat) (h : j < l.length), l.Perm (l[j] :: l.eraseIdx j)
  | a :: r, 0, _ => List.Perm.refl _
  | a :: r, j + 1, h => ((perm_erase r j (by simpa using h)).cons a).trans (List.Perm.swap _ _ _)
/-- The entry that is found, and the pair. -/
theorem one_entry (V : KV P k e t eK ok) {es : Array MapEntry} (hn : KeysNodup E) (hp : (es.toList.map fun x => (x.key, x.val)).Perm (E.map fun p => (eK p.1, eV p.2))) {x : α} {j : Nat} {e0 : MapEntry} (h2 : es.toList[j]? = some e0) (h3 : e0.key = eK x) :
    ∃ v, (x, v) ∈ E ∧ e0.val = eV v ∧ getE E x = some v ∧ ((es.toList.map fun x => (x.key, x.val)).eraseIdx j).Perm ((delE E x).map fun p => (eK p.1, eV p.2)) := by
  have hm0 : e0 ∈ es.toList := List.mem_of_getElem? h2
  obtain ⟨p, hp1, hp2, hp3⟩ := entry_key hp e0 hm0
  obtain ⟨y, v⟩ := p
  obtain rfl : y = x := V.inj (by rw [← hp2, h3])
  refine ⟨v, hp1, hp3, getE_some hn hp1, ?_⟩
  have a1 := (delE_perm hn hp1).map fun p : α × β => (eK p.1, eV p.2)
  have a2 : (es.toList.map fun x => (x.key, x.val)).Perm ((e0.key, e0.val) :: (es.toList.map fun x => (x.key, x.val)).eraseIdx j) := by
    have hj : j < (es.toList.map fun x => (x.key, x.val)).length := by simpa using (List.getElem?_eq_some_iff.1 h2).1
    have hg : (es.toList.map fun x => (x.key, x.val))[j] = (e0.key, e0.val) := by
      have := (List.getElem?_eq_some_iff.1 h2).2
      simp only [List.getElem_map, this]
    rw [← hg]
    exact perm_erase _ _ hj
  have a3 := a2.symm.trans (hp.trans a1)
  rw [List.map_cons, hp2, hp3] at a3
  exact a3.cons_inv

/-- 'v, ok := m[k]'. -/
theorem HoldsMap.look (V : KV P k e t eK ok) (h : HoldsMap eK eV ok w b E) {z : Value} (hz : (zeroValue e).run P w = .ok z w) {x : α} (hx : ok x) :
    (Instr.lookup t (.map (some b)) (eK x) true).run P w = .ok (match getE E x with | some v => .tuple #[eV v, .bool true] | none => .tuple #[z, .bool false]) w := by
  obtain ⟨es, clock, hb, hs, hn, ho, hp⟩ := h
  obtain ⟨l, hl⟩ := V.key x hx
  rcases V.keyed.find w hl es.toList (entry_keys V ho hp) with ⟨h1, h2⟩ | ⟨j, e0, h1, h2, h3⟩
  · rw [getE_none (no_entry hp h2)]
    simp [Instr.lookup, run_underlying V.ty, MapKept.run_getObj_map hb, V.keyed.check w _ hl, h1, hz, Result.andThen]
  · obtain ⟨v, _, hv, hg, _⟩ := one_entry V hn hp h2 h3
    rw [hg]
    simp [Instr.lookup, run_underlying V.ty, MapKept.run_getObj_map hb, V.keyed.check w _ hl, h1, Result.andThen, hv]

/-- 'm[k] = v'. -/
theorem HoldsMap.put (V : KV P k e t eK ok) (h : HoldsMap eK eV ok w b E) {x : α} (hx : ok x) (v : β) :
    ∃ w', (Instr.mapUpdate t (.map (some b)) (eK x) (eV v)).run P w = .ok () w' ∧ HoldsMap eK eV ok w' b (putE E x v) ∧ w.grownBy w' (some b) ∧ w'.heap.size = w.heap.size := by
  obtain ⟨es, clock, hb, hs, hn, ho, hp⟩ := h
  obtain ⟨l, hl⟩ := V.key x hx
  have hgr : ∀ o', w.grownBy (setBlock w b o') (some b) := fun o' => ⟨rfl, rfl, rfl, by simp [setBlock], fun i _ hi => heap_setBlock_other hb _ (fun e => hi (by rw [e]))⟩
  have hok : ∀ p ∈ putE E x v, ok p.1 := fun p hp' => by
    rcases List.mem_cons.1 hp' with rfl | h'
    · exact hx
    · exact ho p (List.mem_filter.1 h').1
  rcases V.keyed.find w hl es.toList (entry_keys V ho hp) with ⟨h1, h2⟩ | ⟨j, e0, h1, h2, h3⟩
  · refine ⟨setBlock w b (.map (es.push ⟨eK x, eV v, clock⟩) (clock + 1)), ?_, ⟨_, _, heap_setBlock_same hb _, stamped_push hs h2, putE_nodup hn x v, hok, ?_⟩, hgr _, by simp [setBlock]⟩
    · simp [Instr.mapUpdate, run_underlying V.ty, MapKept.run_getObj_map hb, V.keyed.check w false hl, h1, MapKept.run_setObj_map _ hb, Result.andThen, setBlock]
    · unfold putE
      rw [delE_none (no_entry hp h2), Array.toList_push, List.map_append, List.map_cons]
      exact (List.perm_append_comm.trans ((hp.cons _)))
  · have hj : es[j]? = some e0 := by simpa using h2
    have hjl : j < es.toList.length := (List.getElem?_eq_some_iff.1 h2).1
    have hlist : (es.modify j (fun e' => { e' with key := eK x, val := eV v })).toList = es.toList.set j { e0 with key := eK x, val := eV v } := by rw [Array.toList_modify, modify_eq_set _ _ _ _ h2]
    refine ⟨setBlock w b (.map (es.modify j (fun e' => { e' with key := eK x, val := eV v })) clock), ?_, ⟨_, _, heap_setBlock_same hb _, stamped_modify hs _ _ (fun _ _ => rfl) (fun e' _ he' => by rw [hj] at he'; cases he'; exact h3.symm), putE_nodup hn x v, hok, ?_⟩, hgr _, by simp [setBlock]⟩
    · simp [Instr.mapUpdate, run_underlying V.ty, MapKept.run_getObj_map hb, V.keyed.check w false hl, h1, hj, h3, V.keyed.stays w hl, MapKept.run_setObj_map _ hb, Result.andThen, setBlock]
    · obtain ⟨v0, _, _, _, hpe⟩ := one_entry V hn hp h2 h3
      rw [hlist, List.map_set]
      unfold putE
      rw [List.map_cons]
      exact (set_perm _ _ (by simpa using hjl) _).trans (hpe.cons _)

/-- 'delete(m, k)'. -/
theorem HoldsMap.del {ty : TypeId} (V : KV P k e t eK ok) (h : HoldsMap eK eV ok w b E) {x : α} (hx : ok x) :
    ∃ w', (Builtin.delete_ #[t, k] ty #[.map (some b), eK x]).run P w = .ok (.tuple #[]) w' ∧ HoldsMap eK eV ok w' b (delE E x) ∧ w.grownBy w' (some b) ∧ w'.heap.size = w.heap.size := by
  obtain ⟨es, clock, hb, hs, hn, ho, hp⟩ := h
  obtain ⟨l, hl⟩ := V.key x hx
  have hgr : ∀ o', w.grownBy (setBlock w b o') (some b) := fun o' => ⟨rfl, rfl, rfl, by simp [setBlock], fun i _ hi => heap_setBlock_other hb _ (fun e => hi (by rw [e]))⟩
  have hok : ∀ p ∈ delE E x, ok p.1 := fun p hp' => ho p (List.mem_filter.1 hp').1
  rcases V.keyed.find w hl es.toList (entry_keys V ho hp) with ⟨h1, h2⟩ | ⟨j, e0, h1, h2, h3⟩
  · refine ⟨setBlock w b (.map es clock), ?_, ⟨_, _, heap_setBlock_same hb _, hs, delE_nodup hn x, hok, ?_⟩, hgr _, by simp [setBlock]⟩
    · simp [Builtin.delete_, run_underlying V.ty, MapKept.run_getObj_map hb, V.keyed.check w _ hl, h1, MapKept.run_setObj_map _ hb, Result.andThen, setBlock]
    · rw [delE_none (no_entry hp h2)]; exact hp
  · have hjl : j < es.toList.length := (List.getElem?_eq_some_iff.1 h2).1
    have hjs : j < es.size := by simpa using hjl
    have hsub : (es.eraseIdxIfInBounds j).toList = es.toList.eraseIdx j := by
      unfold Array.eraseIdxIfInBounds
      rw [dif_pos hjs]
      simp
    obtain ⟨v0, _, _, _, hpe⟩ := one_entry V hn hp h2 h3
    refine ⟨setBlock w b (.map (es.eraseIdxIfInBounds j) clock), ?_, ⟨_, _, heap_setBlock_same hb _, stamped_erase hs j, delE_nodup hn x, hok, ?_⟩, hgr _, by simp [setBlock]⟩
    · simp [Builtin.delete_, run_underlying V.ty, MapKept.run_getObj_map hb, V.keyed.check w _ hl, h1, MapKept.run_setObj_map _ hb, Result.andThen, setBlock]
    · rw [hsub, map_eraseIdx]; exact hpe

omit [DecidableEq α] in
/-- 'len(m)'. -/
theorem HoldsMap.len {ty : TypeId} (V : KV P k e t eK ok) (h : HoldsMap eK eV ok w b E) : (Builtin.len_ #[t] ty #[.map (some b)]).run P w = .ok (.int .i64 E.length) w := by
  obtain ⟨es, clock, hb, hs, hn, ho, hp⟩ := h
  have hl : es.size = E.length := by simpa using hp.length_eq
  rw [← hl]
  simp [Builtin.len_, run_underlying V.ty, MapKept.run_getObj_map hb, Result.andThen]
  rfl

/-! ### 'for k, v := range m' under way: R is still to come -/
def Ranging (eK : α → Value) (eV : β → Value) (ok : α → Prop) (w : World) (b r : Nat) (E R : List (α × β)) : Prop :=
  ∃ es clock since seen c0, w.heap[b]? = some (.map es clock) ∧ Stamped es clock ∧ KeysNodup E ∧ (∀ p ∈ E, ok p.1) ∧ (es.toList.map fun x => (x.key, x.val)).Perm (E.map fun p => (eK p.1, eV p.2)) ∧
    w.heap[r]? = some (.mapIter (some b) since seen c0) ∧ (∀ x ∈ es.toList, x.born < since) ∧ ((leftOf es seen).toList.map fun x => (x.key, x.val)).Perm (R.map fun p => (eK p.1, eV p.2)) ∧ (∀ p ∈ R, p ∈ E) ∧ since ≤ c0 ∧ since ≤ clock

omit [DecidableEq α] in
theorem Ranging.holds {r : Nat} {R : List (α × β)} (h : Ranging eK eV ok w b r E R) : HoldsMap eK eV ok w b E := by
  obtain ⟨es, clock, _, _, _, hb, hs, hn, ho, hp, _⟩ := h
  exact ⟨es, clock, hb, hs, hn, ho, hp⟩
omit [DecidableEq α] in
theorem Ranging.lt {r : Nat} {R : List (α × β)} (h : Ranging eK eV ok w b r E R) : r < w.heap.size := by
  obtain ⟨es, clock, _, _, _, _, _, _, _, _, hr, _⟩ := h
  exact (Array.getElem?_eq_some_iff.1 hr).1
omit [DecidableEq α] in
theorem Ranging.sub {r : Nat} {R : List (α × β)} (h : Ranging eK eV ok w b r E R) : ∀ p ∈ R, p ∈ E := by
  obtain ⟨_, _, _, _, _, _, _, _, _, _, _, _, _, hs, _⟩ := h
  exact hs
omit [DecidableEq α] in
theorem Ranging.ne {r : Nat} {R : List (α × β)} (h : Ranging eK eV ok w b r E R) : r ≠ b := by
  obtain ⟨es, clock, _, _, _, hb, _, _, _, _, hr, _⟩ := h
  intro e1
  rw [e1, hb] at hr
  cases hr
omit [DecidableEq α] in
theorem Ranging.kept {r : Nat} {R : List (α × β)} {w' : World} {row : Option Nat} (h : Ranging eK eV ok w b r E R) (hg : w.grownBy w' row) (h1 : some b ≠ row) (h2 : some r ≠ row) : Ranging eK eV ok w' b r E R := by
  have l1 := h.holds.lt
  have l2 := h.lt
  obtain ⟨es, clock, since, seen, c0, hb, hs, hn, ho, hp, hr, rest⟩ := h
  exact ⟨es, clock, since, seen, c0, (hg.block b l1 h1).trans hb, hs, hn, ho, hp, (hg.block r l2 h2).trans hr, rest⟩
omit [DecidableEq α] in
theorem Ranging.ext {r : Nat} {R : List (α × β)} {w' : World} {n : Nat} (h : Ranging eK eV ok w b r E R) (hg : Below n w w') (hn : n = w.heap.size) : Ranging eK eV ok w' b r E R :=
  h.kept (row := none) ⟨hg.os, hg.tape, hg.output, hg.size, fun i hi _ => hg.block i (hn ▸ hi)⟩ (by simp) (by simp)
omit [DecidableEq α] in
theorem HoldsMap.range (V : KV P k e t eK ok) (h : HoldsMap eK eV ok w b E) :
    ∃ w', (Instr.range t (.map (some b))).run P w = .ok (.pointer (some ⟨w.heap.size, 0, none⟩)) w' ∧ Ranging eK eV ok w' b w.heap.size E E ∧ Below w.heap.size w w' ∧ w'.heap.size = w.heap.size + 1 := by
  have hlt := h.lt
  obtain ⟨es, clock, hb, hs, hn, ho, hp⟩ := h
  refine ⟨_, run_range_map w t k e b es clock V.ty hb, ⟨es, clock, clock, #[], clock, ((MapKept.heap_alloc w _).2 b hlt).trans hb, hs, hn, ho, hp, (MapKept.heap_alloc w _).1, hs.1, ?_, fun _ h => h, Nat.le_refl _, Nat.le_refl _⟩, ⟨rfl, rfl, rfl, by simp, fun i hi => (MapKept.heap_alloc w _).2 i hi⟩, by simp⟩
  have : leftOf es #[] = es := by unfold leftOf; exact Array.filter_eq_self.2 (fun x _ => by simp)
  rw [this]; exact hp

omit [DecidableEq α] in
/-- One step: nothing is left; or one of those that are. -/
theorem Ranging.next {r : Nat} {R : List (α × β)} (h : Ranging eK eV ok w b r E R) (ty : TypeId) :
    (R = [] ∧ (Instr.next (.pointer (some ⟨r, 0, none⟩)) false ty).run P w = .ok (.tuple #[.bool false]) w) ∨
    ∃ p R' w', R.Perm (p :: R') ∧ (Instr.next (.pointer (some ⟨r, 0, none⟩)) false ty).run P w = .ok (.tuple #[.bool true, eK p.1, eV p.2]) w' ∧ Ranging eK eV ok w' b r E R' ∧
      w.grownBy w' (some r) ∧ w'.heap.size = w.heap.size ∧ (Instr.entry (.pointer (some ⟨r, 0, none⟩))).run P w' = .ok (.tuple #[eK p.1, eV p.2]) w' := by
  have hne := h.ne
  obtain ⟨es, clock, since, seen, c0, hb, hs, hn, ho, hp, hr, hold, hleft, hsub, hsc, hsk⟩ := h
  rcases run_next_at (P := P) w ty r b since c0 seen es clock hr hb hold hsc with ⟨h0, hrun⟩ | ⟨x, hx, w1, hal, hrun⟩
  · refine Or.inl ⟨?_, hrun⟩
    have := hleft.length_eq
    rw [List.length_map, Array.length_toList, h0, List.length_map] at this
    exact List.eq_nil_of_length_eq_zero this.symm
  · obtain ⟨hem, hes⟩ := mem_left hx
    have hst := (stamped_iff es clock).1 hs
    have hm := hleft.mem_iff.1 (List.mem_map.2 ⟨x, hx, rfl⟩)
    obtain ⟨p, hpR, hpe⟩ := List.mem_map.1 hm
    simp only [Prod.mk.injEq] at hpe
    obtain ⟨R1, R2, rfl⟩ := List.append_of_mem hpR
    have hr1 : w1.heap[r]? = some (.mapIter (some b) since seen c0) := by rcases hal with rfl | rfl <;> exact hr
    have hb1 : w1.heap[b]? = some (.map es clock) := by rcases hal with rfl | rfl <;> exact hb
    have hset := heap_set (o' := .mapIter (some b) since (seen.push x.born) clock) hr1
    have hb' : (setBlock w1 r (.mapIter (some b) since (seen.push x.born) clock)).heap[b]? = some (.map es clock) := (hset.2 b (fun e1 => hne e1.symm)).trans hb1
    have hbn : (es.toList.map (·.born)).Nodup := hst.2.1
    have hl2 : (leftOf es seen).toList.Perm (x :: (leftOf es (seen.push x.born)).toList) := by
      have e1 : (leftOf es seen).toList = es.toList.filter (fun y => !seen.contains y.born) := by unfold leftOf; rw [Array.toList_filter]
      have e2 : (leftOf es (seen.push x.born)).toList = es.toList.filter (fun y => !seen.contains y.born && !(y.born == x.born)) := by
        unfold leftOf; rw [Array.toList_filter]
        congr 1; funext y; rw [contains_push]; simp
      rw [e1, e2]
      have hgen : ∀ l : List MapEntry, (l.map (·.born)).Nodup → x ∈ l → (l.filter (fun y => !seen.contains y.born)).Perm (x :: l.filter (fun y => !seen.contains y.born && !(y.born == x.born))) := by
        intro l
        induction l with
        | nil => intro _ h; simp at h
        | cons a r ih =>
          intro hnn hin
          simp only [List.map_cons, List.nodup_cons, List.mem_map, not_exists, not_and] at hnn
          rcases List.mem_cons.1 hin with rfl | hin'
          · rw [List.filter_cons_of_pos (by simpa using hes), List.filter_cons_of_neg (by simp)]
            rw [show r.filter (fun y => !seen.contains y.born && !(y.born == x.born)) = r.filter (fun y => !seen.contains y.born) from ?_]
            refine List.filter_congr fun y hy => ?_
            have : y.born ≠ x.born := hnn.1 y hy
            simp [this]
          · have hax : a.born ≠ x.born := fun e1 => hnn.1 x hin' e1.symm
            cases hc : seen.contains a.born
            · rw [List.filter_cons_of_pos (by simpa using hc), List.filter_cons_of_pos (by simp [hax]; simpa using hc)]
              exact ((ih hnn.2 hin').cons a).trans (List.Perm.swap _ _ _)
            · rw [List.filter_cons_of_neg (by simpa using hc), List.filter_cons_of_neg (by simp; simpa using fun h => absurd hc (by simpa using h))]
              exact ih hnn.2 hin'
      exact hgen _ hbn hem
    have hperm : (R1 ++ p :: R2).Perm (p :: (R1 ++ R2)) := List.perm_middle
    refine Or.inr ⟨p, R1 ++ R2, _, hperm, by rw [hpe.1, hpe.2]; exact hrun, ⟨es, clock, since, seen.push x.born, clock, hb', hs, hn, ho, hp, hset.1, hold, ?_, fun q hq => hsub q (hperm.mem_iff.2 (List.mem_cons_of_mem _ hq)), hsk, hsk⟩, ?_, ?_, ?_⟩
    · have a1 := (hl2.map fun x => (x.key, x.val)).symm.trans (hleft.trans (hperm.map _))
      simp only [List.map_cons] at a1
      rw [← hpe.1, ← hpe.2] at a1
      exact a1.cons_inv
    · rcases hal with rfl | rfl <;> exact ⟨rfl, rfl, rfl, by simp [setBlock], fun i _ hi => hset.2 i (fun e1 => hi (by rw [e1]))⟩
    · rcases hal with rfl | rfl <;> simp [setBlock]
    · rw [hpe.1, hpe.2]; exact run_entry_at _ r b since seen es clock x hset.1 hb' hem hst.2.1
end

/-! ### at the operations -/
section
variable {α β : Type} [DecidableEq α] {P : Program} {k e t : TypeId} {eK : α → Value} {eV : β → Value} {ok : α → Prop} {b : Nat} {E : List (α × β)} (w : World) {ops : Array Oper} {rest : List Oper} {o : Oper} {a : Act} {Q : Exit → Act → World → Prop}

theorem wpList_look (hg : o.guard = none) (m x : Operand) (hop : o.op = Op.lookup t m x true) (V : KV P k e t eK ok) {z : Value} (hz : (zeroValue e).run P w = .ok z w)
    (hm : a.eval m = .map (some b)) (h : HoldsMap eK eV ok w b E) (key : α) (hx : a.eval x = eK key) (hk : ok key)
    (hK : wpList P ops Q rest (a.put o.dst (match getE E key with | some v => .tuple #[eV v, .bool true] | none => .tuple #[z, .bool false])) w) : wpList P ops Q (o :: rest) a w := by
  refine wpList_plain hg fun K' hK' => ?_
  unfold Oper.wp
  simp only [execOp, hop, hm, hx, Sem.run_bind, h.look V hz hk, Result.andThen]
  exact hK' _ _ hK
theorem wpList_store (hg : o.guard = none) (m x v : Operand) (hop : o.op = Op.mapUpdate t m x v) (V : KV P k e t eK ok)
    (hm : a.eval m = .map (some b)) (h : HoldsMap eK eV ok w b E) (key : α) (val : β) (hx : a.eval x = eK key) (hv : a.eval v = eV val) (hk : ok key)
    (hK : ∀ w', HoldsMap eK eV ok w' b (putE E key val) → w.grownBy w' (some b) → w'.heap.size = w.heap.size → wpList P ops Q rest (a.put o.dst undef) w') : wpList P ops Q (o :: rest) a w := by
  refine wpList_plain hg fun K' hK' => ?_
  obtain ⟨w', hrun, r1, r2, r3⟩ := h.put V hk val
  unfold Oper.wp
  simp [execOp, hop, hm, hx, hv, hrun, Result.andThen]
  exact hK' _ _ (hK w' r1 r2 r3)
theorem wpList_drop (hg : o.guard = none) (m x : Operand) (hop : o.op = Op.call { callee := Callee.builtin Builtin.delete, args := #[m, x], argTypes := #[t, k] }) (V : KV P k e t eK ok)
    (hm : a.eval m = .map (some b)) (h : HoldsMap eK eV ok w b E) (key : α) (hx : a.eval x = eK key) (hk : ok key)
    (hK : ∀ w', HoldsMap eK eV ok w' b (delE E key) → w.grownBy w' (some b) → w'.heap.size = w.heap.size → wpList P ops Q rest (a.put o.dst (.tuple #[])) w') : wpList P ops Q (o :: rest) a w := by
  refine wpList_plain hg fun K' hK' => ?_
  obtain ⟨w', hrun, r1, r2, r3⟩ := h.del (ty := o.type) V hk
  unfold Oper.wp
  simp [execOp, hop, resolve, invoke, builtin, hm, hx, hrun, Result.andThen]
  exact hK' _ _ (hK w' r1 r2 r3)
omit [DecidableEq α] in
theorem wpList_mlen (hg : o.guard = none) (m : Operand) (hop : o.op = Op.call { callee := Callee.builtin Builtin.len, args := #[m], argTypes := #[t] }) (V : KV P k e t eK ok)
    (hm : a.eval m = .map (some b)) (h : HoldsMap eK eV ok w b E) (hK : wpList P ops Q rest (a.put o.dst (.int .i64 E.length)) w) : wpList P ops Q (o :: rest) a w := by
  refine wpList_plain hg fun K' hK' => ?_
  unfold Oper.wp
  simp [execOp, hop, resolve, invoke, builtin, hm, h.len (ty := o.type) V, Result.andThen]
  exact hK' _ _ hK
omit [DecidableEq α] in
theorem wpList_mrange (hg : o.guard = none) (m : Operand) (hop : o.op = Op.range t m) (V : KV P k e t eK ok) (hm : a.eval m = .map (some b)) (h : HoldsMap eK eV ok w b E)
    (hK : ∀ w', Ranging eK eV ok w' b w.heap.size E E → Below w.heap.size w w' → w'.heap.size = w.heap.size + 1 → wpList P ops Q rest (a.put o.dst (.pointer (some ⟨w.heap.size, 0, none⟩))) w') : wpList P ops Q (o :: rest) a w := by
  refine wpList_plain hg fun K' hK' => ?_
  obtain ⟨w', hrun, r1, r2, r3⟩ := h.range V
  unfold Oper.wp
  simp [execOp, hop, hm, hrun, Result.andThen]
  exact hK' _ _ (hK w' r1 r2 r3)
omit [DecidableEq α] in
theorem wpList_mnext {r : Nat} {R : List (α × β)} (hg : o.guard = none) (it : Operand) (hop : o.op = Op.next it false) (hit : a.eval it = .pointer (some ⟨r, 0, none⟩)) (h : Ranging eK eV ok w b r E R)
    (hDone : R = [] → wpList P ops Q rest (a.put o.dst (.tuple #[.bool false])) w)
    (hMore : ∀ p R' w', R.Perm (p :: R') → Ranging eK eV ok w' b r E R' → w.grownBy w' (some r) → w'.heap.size = w.heap.size → (Instr.entry (.pointer (some ⟨r, 0, none⟩))).run P w' = .ok (.tuple #[eK p.1, eV p.2]) w' →
      wpList P ops Q rest (a.put o.dst (.tuple #[.bool true, eK p.1, eV p.2])) w') : wpList P ops Q (o :: rest) a w := by
  refine wpList_plain hg fun K' hK' => ?_
  unfold Oper.wp
  rcases h.next (P := P) o.type with ⟨h0, hrun⟩ | ⟨p, R', w', hp, hrun, hrg, hgr, hsz, hen⟩
  · simp [execOp, hop, hit, hrun, Result.andThen]
    exact hK' _ _ (hDone h0)
  · simp [execOp, hop, hit, hrun, Result.andThen]
    exact hK' _ _ (hMore p R' w' hp hrg hgr hsz hen)
end
end Go.Proofs.Ytaegobkkcgheeaa

namespace Go.Proofs.Ytaegobkkcgheeaa
open Go.RowKit

instance : DecidableEq Pt := fun p q => decidable_of_iff (p.x = q.x ∧ p.y = q.y) Pt.eq_iff.symm
instance : Inhabited Pt := ⟨⟨0, 0⟩⟩
@[reducible] def eP (p : Pt) : Value := .agg #[.int .i64 p.x, .int .i64 p.y]
@[reducible] def eW (w : Pt × Pt) : Value := .agg #[.int .i64 w.1.x, .int .i64 w.1.y, .int .i64 w.2.x, .int .i64 w.2.y]
def okI (n : Int) : Prop := (Lit.int .i64 n).wf = true
def okP (p : Pt) : Prop := okI p.x ∧ okI p.y
def okW (w : Pt × Pt) : Prop := okP w.1 ∧ okP w.2
theorem eW_inj {v w : Pt × Pt} (h : eW v = eW w) : v = w := by
  obtain ⟨⟨a, b⟩, ⟨c, d⟩⟩ := v
  obtain ⟨⟨e, f⟩, ⟨g, i⟩⟩ := w
  simpa [eW, and_assoc] using h
theorem laidTry : laidOutB Try.prog = true := by kernel_rfl
theorem lits_int {P : Program} {t : TypeId} (ht : P.underlying t = some (.int .i64)) (d : Nat) {n : Int} (h : okI n) : P.keyLits (d + 1) t [.int .i64 n] = some [.int .i64 n] := by
  unfold okI at h
  simp only [Program.keyLits, ht, h, and_self, if_true]
theorem lits_two {P : Program} {t : TypeId} {f g : Field} (ht : P.underlying t = some (.struct #[f, g])) (hc : P.cellsOf t = P.cellsOf f.type + P.cellsOf g.type) (hf : f.name ≠ "_") (hg : g.name ≠ "_") (ho : f.offset = 0) (hp : g.offset = P.cellsOf f.type) (d : Nat)
    {xs ys : List Value} {a b : List Lit} (h1 : xs.length = P.cellsOf f.type) (h2 : ys.length = P.cellsOf g.type) (h3 : P.keyLits d f.type xs = some a) (h4 : P.keyLits d g.type ys = some b) : P.keyLits (d + 1) t (xs ++ ys) = some (a ++ b) := by
  have e1 : ((xs ++ ys).drop f.offset).take (P.cellsOf f.type) = xs := by rw [ho, List.drop_zero, ← h1]; simp
  have e2 : ((xs ++ ys).drop g.offset).take (P.cellsOf g.type) = ys := by rw [hp, ← h1, ← h2]; simp
  simp only [Program.keyLits, ht]
  rw [if_pos ⟨by simp [h1, h2, hc], by simp [hf, hg]⟩]
  simp [e1, e2, h3, h4]
theorem lits_pt (d : Nat) (p : Pt) (h : okP p) : Try.prog.keyLits (d + 1 + 1) 23 [.int .i64 p.x, .int .i64 p.y] = some [.int .i64 p.x, .int .i64 p.y] :=
  lits_two Try.underlying23 (by kernel_rfl) (by decide) (by decide) rfl (by kernel_rfl) (d + 1) (xs := [.int .i64 p.x]) (ys := [.int .i64 p.y]) (by kernel_rfl) (by kernel_rfl) (lits_int Try.underlying3 d h.1) (lits_int Try.underlying3 d h.2)
theorem key_way {t : TypeId} {f g : Field} (ht : Try.prog.underlying t = some (.struct #[f, g])) (hk : Try.prog.keyType t = true) (hc : Try.prog.cellsOf t = 4) (hf : f.name ≠ "_") (hg : g.name ≠ "_") (ho : f.offset = 0) (hp : g.offset = 2)
    (tf : f.type = 23) (tg : g.type = 23) (w : Pt × Pt) (h : okW w) (hfm : Value.formed Try.prog t (eW w) = true) : ∃ l, keyOf Try.prog t (eW w) = some l := by
  have hP : Try.prog.cellsOf 23 = 2 := by kernel_rfl
  have hn : 2 ≤ Try.prog.types.size := of_decide_eq_true (by kernel_rfl)
  obtain ⟨d, hd⟩ : ∃ d, Try.prog.types.size + 1 = d + 1 + 1 + 1 := ⟨Try.prog.types.size - 2, by omega⟩
  have hl := lits_two (P := Try.prog) ht (by rw [tf, tg, hP, hc]) hf hg ho (by rw [tf, hP, hp]) (d + 1 + 1) (xs := [.int .i64 w.1.x, .int .i64 w.1.y]) (ys := [.int .i64 w.2.x, .int .i64 w.2.y]) (by rw [tf, hP]; rfl) (by rw [tg, hP]; rfl)
    (by rw [tf]; exact lits_pt d w.1 h.1) (by rw [tg]; exact lits_pt d w.2 h.2)
  unfold keyOf
  simp only [ht, hk, hfm, Bool.and_self, if_true, hd]
  exact ⟨_, congrArg (Option.map _) hl⟩
theorem keyed_way {t : TypeId} {fs : Array Field} (ht : Try.prog.underlying t = some (.struct fs)) (h1 : t < Try.prog.types.size) (h2 : Try.prog.keyTypeAt 5 t = true) : Go.Maps.Keyed Try.prog t := by
  refine Go.Maps.Keyed.of_law (deep_law_laid laidTry (m := 5) (by decide) h1 h2 ?_)
  rw [ht]
/-- The project's table by ways. -/
theorem kvM : KV Try.prog 73 25 63 eW okW where
  keyed := keyed_way Try.underlying73 (of_decide_eq_true (by kernel_rfl)) (by kernel_rfl)
  ty := Try.underlying63
  key w h := key_way Try.underlying73 (by kernel_rfl) (by kernel_rfl) (by decide) (by decide) rfl rfl rfl rfl w h (by kernel_rfl)
  inj := eW_inj
/-- The document's. -/
theorem kvR : KV Try.prog 75 25 67 eW okW where
  keyed := keyed_way Try.underlying75 (of_decide_eq_true (by kernel_rfl)) (by kernel_rfl)
  ty := Try.underlying67
  key w h := key_way Try.underlying75 (by kernel_rfl) (by kernel_rfl) (by decide) (by decide) rfl rfl rfl rfl w h (by kernel_rfl)
  inj := eW_inj
end Go.Proofs.Ytaegobkkcgheeaa

namespace Go.Proofs.Ytaegobkkcgheeaa
open Go.RowKit Go.Sort
attribute [local go_sem] rOper rAt rUpon cell_set sg_i64 sg_u64 alloc_cell alloc_frozen
attribute [local go_sem 10000] pt_eql pt_neq
attribute [local irreducible] rWalk

/-- i modulo 3, from 0 on. -/
def plc (i : Int) : Int := i % 3
theorem plc_cases (i : Int) : plc i = 0 ∨ plc i = 1 ∨ plc i = 2 := by unfold plc; omega
theorem place_eq (i : Int) : (wrap64 (i.tmod 3 + 3)).tmod 3 = plc i := by
  have h := @Int.tmod_eq_emod i 3
  have h2 : i.tmod 3 = i % 3 ∨ i.tmod 3 = i % 3 - 3 := by
    split at h
    · left; omega
    · right; simp at h; omega
  rw [show wrap64 (i.tmod 3 + 3) = i.tmod 3 + 3 by rw [w64]; omega, Int.tmod_eq_emod_of_nonneg (by omega)]
  unfold plc; omega
theorem place_any (i : Int) (w : World) :
    Calls Try.prog 33 #[.int .i64 i] w fun e w' => e = .returned (.int .i64 (plc i)) ∧ Below w.heap.size w w' := by
  rw [← place_eq]
  go_enter Try.func33, Try.ntmps33
  go_wp2
  go_ret
  exact ⟨rfl, by go_grown⟩
/-- The corner at a place. -/
def crn (T : Tri3) (i : Int) : Pt := if plc i = 0 then T.A else if plc i = 1 then T.B else T.C
theorem crn_plc (T : Tri3) (i : Int) : crn T (plc i) = crn T i := by
  have : plc (plc i) = plc i := by unfold plc; omega
  unfold crn; rw [this]
theorem crn_next (T : Tri3) (i : Int) : crn T (plc i + 1) = crn T (i + 1) := by
  have : plc (plc i + 1) = plc (i + 1) := by unfold plc; omega
  unfold crn; rw [this]
theorem corner_0 (T : Tri3) (i : Int) (h : plc i = 0) (w : World) :
    Calls Try.prog 11 #[.agg #[.int .i64 T.A.x, .int .i64 T.A.y, .int .i64 T.B.x, .int .i64 T.B.y, .int .i64 T.C.x, .int .i64 T.C.y], .int .i64 i] w fun e w' => e = .returned (.agg #[.int .i64 T.A.x, .int .i64 T.A.y]) ∧ Below w.heap.size w w' := by
  have cp := place_any i
  rw [h] at cp
  clear h
  go_enter Try.func11, Try.ntmps11
  go_wp2_with fail
  refine at_call fun W1 hW => ?_
  have Bt : Box W1 (w.heap.size) [.int .i64 T.A.x, .int .i64 T.A.y, .int .i64 T.B.x, .int .i64 T.B.y, .int .i64 T.C.x, .int .i64 T.C.y] 25 := by rw [hW]; exact (Box.new rfl).old _
  have Br : Box W1 (w.heap.size + 1) [.int .i64 0, .int .i64 0] 23 := by rw [hW]; exact Box.new (by simp)
  have hw : Below w.heap.size w W1 := by rw [hW]; go_grown
  clear hW
  refine (cp _).mono ?_
  rintro e w2 ⟨rfl, hb⟩
  replace Bt := Bt.ext hb rfl
  replace Br := Br.ext hb rfl
  replace hw := hw.trans (hb.mono hw.size)
  clear hb
  obtain ⟨xt, yt, zt, vt⟩ := Bt.facts
  obtain ⟨xr, yr, zr, vr⟩ := Br.facts
  go_wp2_with fail
  refine bodyPost_ret (v := .agg #[.int .i64 T.A.x, .int .i64 T.A.y]) (by simp [results, Try.results11, go_sem, xr]) rfl ⟨rfl, by have hl := hw.size; go_grown⟩

theorem corner_1 (T : Tri3) (i : Int) (h : plc i = 1) (w : World) :
    Calls Try.prog 11 #[.agg #[.int .i64 T.A.x, .int .i64 T.A.y, .int .i64 T.B.x, .int .i64 T.B.y, .int .i64 T.C.x, .int .i64 T.C.y], .int .i64 i] w fun e w' => e = .returned (.agg #[.int .i64 T.B.x, .int .i64 T.B.y]) ∧ Below w.heap.size w w' := by
  have cp := place_any i
  rw [h] at cp
  clear h
  go_enter Try.func11, Try.ntmps11
  go_wp2_with fail
  refine at_call fun W1 hW => ?_
  have Bt : Box W1 (w.heap.size) [.int .i64 T.A.x, .int .i64 T.A.y, .int .i64 T.B.x, .int .i64 T.B.y, .int .i64 T.C.x, .int .i64 T.C.y] 25 := by rw [hW]; exact (Box.new rfl).old _
  have Br : Box W1 (w.heap.size + 1) [.int .i64 0, .int .i64 0] 23 := by rw [hW]; exact Box.new (by simp)
  have hw : Below w.heap.size w W1 := by rw [hW]; go_grown
  clear hW
  refine (cp _).mono ?_
  rintro e w2 ⟨rfl, hb⟩
  replace Bt := Bt.ext hb rfl
  replace Br := Br.ext hb rfl
  replace hw := hw.trans (hb.mono hw.size)
  clear hb
  obtain ⟨xt, yt, zt, vt⟩ := Bt.facts
  obtain ⟨xr, yr, zr, vr⟩ := Br.facts
  go_wp2_with fail
  refine bodyPost_ret (v := .agg #[.int .i64 T.B.x, .int .i64 T.B.y]) (by simp [results, Try.results11, go_sem, xr]) rfl ⟨rfl, by have hl := hw.size; go_grown⟩

theorem corner_2 (T : Tri3) (i : Int) (h : plc i = 2) (w : World) :
    Calls Try.prog 11 #[.agg #[.int .i64 T.A.x, .int .i64 T.A.y, .int .i64 T.B.x, .int .i64 T.B.y, .int .i64 T.C.x, .int .i64 T.C.y], .int .i64 i] w fun e w' => e = .returned (.agg #[.int .i64 T.C.x, .int .i64 T.C.y]) ∧ Below w.heap.size w w' := by
  have cp := place_any i
  rw [h] at cp
  clear h
  go_enter Try.func11, Try.ntmps11
  go_wp2_with fail
  refine at_call fun W1 hW => ?_
  have Bt : Box W1 (w.heap.size) [.int .i64 T.A.x, .int .i64 T.A.y, .int .i64 T.B.x, .int .i64 T.B.y, .int .i64 T.C.x, .int .i64 T.C.y] 25 := by rw [hW]; exact (Box.new rfl).old _
  have Br : Box W1 (w.heap.size + 1) [.int .i64 0, .int .i64 0] 23 := by rw [hW]; exact Box.new (by simp)
  have hw : Below w.heap.size w W1 := by rw [hW]; go_grown
  clear hW
  refine (cp _).mono ?_
  rintro e w2 ⟨rfl, hb⟩
  replace Bt := Bt.ext hb rfl
  replace Br := Br.ext hb rfl
  replace hw := hw.trans (hb.mono hw.size)
  clear hb
  obtain ⟨xt, yt, zt, vt⟩ := Bt.facts
  obtain ⟨xr, yr, zr, vr⟩ := Br.facts
  go_wp2_with fail
  refine bodyPost_ret (v := .agg #[.int .i64 T.C.x, .int .i64 T.C.y]) (by simp [results, Try.results11, go_sem, xr]) rfl ⟨rfl, by have hl := hw.size; go_grown⟩

theorem corner_any (T : Tri3) (i : Int) (w : World) :
    Calls Try.prog 11 #[.agg #[.int .i64 T.A.x, .int .i64 T.A.y, .int .i64 T.B.x, .int .i64 T.B.y, .int .i64 T.C.x, .int .i64 T.C.y], .int .i64 i] w fun e w' => e = .returned (.agg #[.int .i64 (crn T i).x, .int .i64 (crn T i).y]) ∧ Below w.heap.size w w' := by
  rcases plc_cases i with h | h | h
  · rw [show crn T i = T.A by unfold crn; simp [h]]; exact corner_0 T i h w
  · rw [show crn T i = T.B by unfold crn; simp [h]]; exact corner_1 T i h w
  · rw [show crn T i = T.C by unfold crn; simp [h]]; exact corner_2 T i h w
theorem turned_any (T : Tri3) (w : World) :
    Calls Try.prog 26 #[.agg #[.int .i64 T.A.x, .int .i64 T.A.y, .int .i64 T.B.x, .int .i64 T.B.y, .int .i64 T.C.x, .int .i64 T.C.y]] w fun e w' => e = .returned (.agg #[.int .i64 T.B.x, .int .i64 T.B.y, .int .i64 T.C.x, .int .i64 T.C.y, .int .i64 T.A.x, .int .i64 T.A.y]) ∧ Below w.heap.size w w' := by
  go_enter Try.func26, Try.ntmps26
  go_wp2_with fail
  refine bodyPost_ret (v := .agg #[.int .i64 T.B.x, .int .i64 T.B.y, .int .i64 T.C.x, .int .i64 T.C.y, .int .i64 T.A.x, .int .i64 T.A.y]) (by simp [results, Try.results26, go_sem]) rfl ⟨rfl, by go_grown⟩

def leq (p q : Pt) : Bool := decide (cmpP p q ≤ 0)
/-- Is its first corner the least? -/
def lds (T : Tri3) : Bool := leq T.A T.B && leq T.A T.C
theorem leads_0 (T : Tri3) (h : leq T.A T.B = false) (w : World) :
    Calls Try.prog 25 #[.agg #[.int .i64 T.A.x, .int .i64 T.A.y, .int .i64 T.B.x, .int .i64 T.B.y, .int .i64 T.C.x, .int .i64 T.C.y]] w fun e w' => e = .returned (.bool false) ∧ Below w.heap.size w w' := by
  have c1 := cmp_pt T.A T.B
  unfold leq at h
  generalize cmpP T.A T.B = n at *
  go_enter Try.func25, Try.ntmps25
  go_wp2_with fail
  refine at_call fun W1 hW => ?_
  have Bt : Box W1 (w.heap.size) [.int .i64 T.A.x, .int .i64 T.A.y, .int .i64 T.B.x, .int .i64 T.B.y, .int .i64 T.C.x, .int .i64 T.C.y] 25 := by rw [hW]; exact Box.new rfl
  have hw : Below w.heap.size w W1 := by rw [hW]; go_grown
  clear hW
  refine (c1 _).mono ?_
  rintro e w2 ⟨rfl, hb⟩
  replace Bt := Bt.ext hb rfl
  replace hw := hw.trans (hb.mono hw.size)
  clear hb
  obtain ⟨xt, yt, zt, vt⟩ := Bt.facts
  go_wp2
  go_ret
  exact ⟨rfl, by have hl := hw.size; go_grown⟩

theorem leads_1 (T : Tri3) (h : leq T.A T.B = true) (w : World) :
    Calls Try.prog 25 #[.agg #[.int .i64 T.A.x, .int .i64 T.A.y, .int .i64 T.B.x, .int .i64 T.B.y, .int .i64 T.C.x, .int .i64 T.C.y]] w fun e w' => e = .returned (.bool (leq T.A T.C)) ∧ Below w.heap.size w w' := by
  have c1 := cmp_pt T.A T.B
  have c2 := cmp_pt T.A T.C
  unfold leq at h ⊢
  generalize cmpP T.A T.B = n at *
  generalize cmpP T.A T.C = m at *
  go_enter Try.func25, Try.ntmps25
  go_wp2_with fail
  refine at_call fun W1 hW => ?_
  have Bt : Box W1 (w.heap.size) [.int .i64 T.A.x, .int .i64 T.A.y, .int .i64 T.B.x, .int .i64 T.B.y, .int .i64 T.C.x, .int .i64 T.C.y] 25 := by rw [hW]; exact Box.new rfl
  have hw : Below w.heap.size w W1 := by rw [hW]; go_grown
  clear hW
  refine (c1 _).mono ?_
  rintro e w2 ⟨rfl, hb⟩
  replace Bt := Bt.ext hb rfl
  replace hw := hw.trans (hb.mono hw.size)
  clear hb
  obtain ⟨xt, yt, zt, vt⟩ := Bt.facts
  go_wp2_with fail
  refine (c2 _).mono ?_
  rintro e w3 ⟨rfl, hb⟩
  clear xt yt zt vt
  replace Bt := Bt.ext hb rfl
  replace hw := hw.trans (hb.mono hw.size)
  clear hb
  obtain ⟨xt, yt, zt, vt⟩ := Bt.facts
  go_wp2
  go_ret
  exact ⟨rfl, by have hl := hw.size; go_grown⟩

theorem leads_any (T : Tri3) (w : World) :
    Calls Try.prog 25 #[.agg #[.int .i64 T.A.x, .int .i64 T.A.y, .int .i64 T.B.x, .int .i64 T.B.y, .int .i64 T.C.x, .int .i64 T.C.y]] w fun e w' => e = .returned (.bool (lds T)) ∧ Below w.heap.size w w' := by
  unfold lds
  cases h : leq T.A T.B with
  | false => exact leads_0 T h w
  | true => exact leads_1 T h w
def valS (T : Tri3) : Bool := decide (0 < ori T.A T.B T.C) && lds T
theorem tvalid_0 (T : Tri3) (h : decide (0 < ori T.A T.B T.C) = false) (w : World) :
    Calls Try.prog 14 #[.agg #[.int .i64 T.A.x, .int .i64 T.A.y, .int .i64 T.B.x, .int .i64 T.B.y, .int .i64 T.C.x, .int .i64 T.C.y]] w fun e w' => e = .returned (.bool false) ∧ Below w.heap.size w w' := by
  have c1 := orient_any T.A T.B T.C
  generalize ori T.A T.B T.C = n at *
  go_enter Try.func14, Try.ntmps14
  go_wp2_with fail
  refine at_call fun W1 hW => ?_
  have Bt : Box W1 (w.heap.size) [.int .i64 T.A.x, .int .i64 T.A.y, .int .i64 T.B.x, .int .i64 T.B.y, .int .i64 T.C.x, .int .i64 T.C.y] 25 := by rw [hW]; exact Box.new rfl
  have hw : Below w.heap.size w W1 := by rw [hW]; go_grown
  clear hW
  refine (c1 _).mono ?_
  rintro e w2 ⟨rfl, hb⟩
  replace Bt := Bt.ext hb rfl
  replace hw := hw.trans (hb.mono hw.size)
  clear hb
  obtain ⟨xt, yt, zt, vt⟩ := Bt.facts
  go_wp2
  go_ret
  exact ⟨rfl, by have hl := hw.size; go_grown⟩

theorem tvalid_1 (T : Tri3) (h : decide (0 < ori T.A T.B T.C) = true) (w : World) :
    Calls Try.prog 14 #[.agg #[.int .i64 T.A.x, .int .i64 T.A.y, .int .i64 T.B.x, .int .i64 T.B.y, .int .i64 T.C.x, .int .i64 T.C.y]] w fun e w' => e = .returned (.bool (lds T)) ∧ Below w.heap.size w w' := by
  have c1 := orient_any T.A T.B T.C
  have c2 := leads_any T
  generalize ori T.A T.B T.C = n at *
  generalize lds T = m at *
  go_enter Try.func14, Try.ntmps14
  go_wp2_with fail
  refine at_call fun W1 hW => ?_
  have Bt : Box W1 (w.heap.size) [.int .i64 T.A.x, .int .i64 T.A.y, .int .i64 T.B.x, .int .i64 T.B.y, .int .i64 T.C.x, .int .i64 T.C.y] 25 := by rw [hW]; exact Box.new rfl
  have hw : Below w.heap.size w W1 := by rw [hW]; go_grown
  clear hW
  refine (c1 _).mono ?_
  rintro e w2 ⟨rfl, hb⟩
  replace Bt := Bt.ext hb rfl
  replace hw := hw.trans (hb.mono hw.size)
  clear hb
  obtain ⟨xt, yt, zt, vt⟩ := Bt.facts
  go_wp2_with fail
  refine (c2 _).mono ?_
  rintro e w3 ⟨rfl, hb⟩
  clear xt yt zt vt
  replace Bt := Bt.ext hb rfl
  replace hw := hw.trans (hb.mono hw.size)
  clear hb
  obtain ⟨xt, yt, zt, vt⟩ := Bt.facts
  go_wp2
  go_ret
  exact ⟨rfl, by have hl := hw.size; go_grown⟩

theorem ori_bd1 {a b c : Pt} (h : decide (0 < ori a b c) = true) : ori a b c = 1 := by
  have := ori_bd a b c
  simp at h; omega
theorem leq_key {p q : Pt} (hp : vld p = true) (hq : vld q = true) : leq p q = decide (key p ≤ key q) := by
  have h := cmp_lt hq hp
  have h2 := cmpP_key hp hq
  have h3 := sgn_cases (key p - key q)
  unfold leq
  by_cases hh : key p ≤ key q
  · rw [decide_eq_true hh, decide_eq_true]; omega
  · rw [decide_eq_false hh, decide_eq_false]; omega
theorem teq_iff {s u : Tri3} : teq s u = true ↔ s = u := by
  unfold teq
  simp only [Bool.and_eq_true, peqI_iff]
  cases s with | mk a b c => cases u with | mk d e f => cases a; cases b; cases c; cases d; cases e; cases f; simp [and_assoc]
theorem Tri3.eq_iff {s u : Tri3} : s = u ↔ s.A = u.A ∧ s.B = u.B ∧ s.C = u.C := by
  cases s; cases u; simp
/-- The two Valids are one. -/
theorem val_eq (T : Tri3) : valT T = valS T := by
  obtain ⟨a, b, c⟩ := T
  unfold valT valS lds
  simp only
  have hb := ori_bd a b c
  by_cases h0 : ori a b c = 0
  · simp [h0]
  · obtain ⟨va, vb, vc⟩ := ori_vld h0
    obtain ⟨d1, d2, d3⟩ := ori_distinct h0
    have n1 : key a ≠ key b := fun h => d1 (key_inj va vb h).symm
    have n2 : key a ≠ key c := fun h => d2 (key_inj va vc h).symm
    have n3 : key b ≠ key c := fun h => d3 (key_inj vb vc h).symm
    rw [leq_key va vb, leq_key va vc, show (!decide (ori a b c = 0)) = true by simp [h0], Bool.true_and]
    rw [Bool.eq_iff_iff, teq_iff]
    by_cases h1 : ori a b c = 1
    · rw [show mk a b c = mkT a b c by unfold mk; rw [if_neg h0, if_pos h1]]
      rcases mkT_rot va vb vc n1 n2 n3 with ⟨x1, x2, e⟩ | ⟨x1, x2, e⟩ | ⟨x1, x2, e⟩ <;> rw [e, Tri3.eq_iff] <;> simp only [Bool.and_eq_true, decide_eq_true_eq]
      · simp; omega
      · exact ⟨fun h => absurd h.1 d1, fun h => by omega⟩
      · exact ⟨fun h => absurd h.1 d2, fun h => by omega⟩
    · have h2 : ori a b c = -1 := by omega
      rw [show mk a b c = mkT a c b by unfold mk; rw [if_neg h0, if_neg h1]]
      rcases mkT_rot va vc vb n2 n1 n3.symm with ⟨x1, x2, e⟩ | ⟨x1, x2, e⟩ | ⟨x1, x2, e⟩ <;> rw [e, Tri3.eq_iff] <;> simp only [Bool.and_eq_true, decide_eq_true_eq]
      · exact ⟨fun h => absurd h.2.1 d3, fun h => by omega⟩
      · exact ⟨fun h => absurd h.1 d2, fun h => by omega⟩
      · exact ⟨fun h => absurd h.1 d1, fun h => by omega⟩
theorem tvalid_any (T : Tri3) (w : World) :
    Calls Try.prog 14 #[.agg #[.int .i64 T.A.x, .int .i64 T.A.y, .int .i64 T.B.x, .int .i64 T.B.y, .int .i64 T.C.x, .int .i64 T.C.y]] w fun e w' => e = .returned (.bool (valT T)) ∧ Below w.heap.size w w' := by
  rw [val_eq]
  unfold valS
  cases h : decide (0 < ori T.A T.B T.C) with
  | false => exact tvalid_0 T h w
  | true => exact tvalid_1 T h w
end Go.Proofs.Ytaegobkkcgheeaa
