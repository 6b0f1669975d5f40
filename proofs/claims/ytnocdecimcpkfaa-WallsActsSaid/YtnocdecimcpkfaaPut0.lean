/- Put together: Map, WideM, ExM. -/
import Derived.Maps.RangeWalk
import Derived.Maps.OwnSet
import Derived.DeepKeys4
import Derived.Below
import Derived.WalkKit
namespace Go.Proofs.Ytnocdecimcpkfaa
open Go Go.ChangeMaps Go.MapKept Go.Maps Go.RowKit

section
variable {α β : Type} [DecidableEq α]

def getE (E : List (α × β)) (x : α) : Option β := (E.find? fun p => decide (p.1 = x)).map (·.2)
def delE (E : List (α × β)) (x : α) : List (α × β) := E.filter fun p => decide (p.1 ≠ x)
def putE (E : List (α × β)) (x : α) (v : β) : List (α × β) := (x, v) :: delE E x
def KeysNodup (E : List (α × β)) : Prop := (E.map (·.1)).Nodup

omit [DecidableEq α] in
theorem KeysNodup.perm {E E' : List (α × β)} (h : KeysNodup E) (p : E.Perm E') : KeysNodup E' := (p.map _).nodup_iff.1 h
theorem getE_none {E : List (α × β)} {x : α} (h : ∀ p ∈ E, p.1 ≠ x) : getE E x = none := by
  unfold getE
  rw [List.find?_eq_none.2 (fun p hp => by simpa using h p hp)]
  rfl
theorem getE_none_iff {E : List (α × β)} {x : α} : getE E x = none ↔ ∀ p ∈ E, p.1 ≠ x := by
  refine ⟨fun h p hp e => ?_, getE_none⟩
  unfold getE at h
  rw [Option.map_eq_none_iff, List.find?_eq_none] at h
  exact absurd e (by simpa using h p hp)
omit [DecidableEq α] in
theorem pairs_inj {E : List (α × β)} (hn : KeysNodup E) {p q : α × β} (hp : p ∈ E) (hq : q ∈ E) (h : p.1 = q.1) : p = q := by
  unfold KeysNodup at hn
  induction E with
  | nil => simp at hp
  | cons a r ih =>
    simp only [List.map_cons, List.nodup_cons, List.mem_map, not_exists, not_and] at hn
    rcases List.mem_cons.1 hp with rfl | hp'
    · rcases List.mem_cons.1 hq with rfl | hq'
      · rfl
      · exact absurd h.symm (hn.1 q hq')
    · rcases List.mem_cons.1 hq with rfl | hq'
      · exact absurd h (hn.1 p hp')
      · exact ih hn.2 hp' hq'
theorem getE_some {E : List (α × β)} (hn : KeysNodup E) {x : α} {v : β} (h : (x, v) ∈ E) : getE E x = some v := by
  unfold getE
  cases hf : E.find? fun p => decide (p.1 = x) with
  | none =>
    rw [List.find?_eq_none] at hf
    exact absurd (hf _ h) (by simp)
  | some q =>
    have h1 := List.mem_of_find?_eq_some hf
    have h2 := List.find?_some hf
    simp only [decide_eq_true_eq] at h2
    rw [pairs_inj hn h1 h h2]
    rfl
theorem getE_mem {E : List (α × β)} {x : α} {v : β} (h : getE E x = some v) : (x, v) ∈ E := by
  unfold getE at h
  cases hf : E.find? fun p => decide (p.1 = x) with
  | none => rw [hf] at h; cases h
  | some q =>
    rw [hf] at h
    have h1 := List.mem_of_find?_eq_some hf
    have h2 := List.find?_some hf
    simp only [decide_eq_true_eq] at h2
    simp only [Option.map_some, Option.some.injEq] at h
    rw [← h2, ← h]; exact h1
theorem getE_iff {E : List (α × β)} (hn : KeysNodup E) {x : α} {v : β} : getE E x = some v ↔ (x, v) ∈ E := ⟨getE_mem, getE_some hn⟩
theorem getE_perm {E E' : List (α × β)} (hn : KeysNodup E) (hp : E.Perm E') (x : α) : getE E x = getE E' x := by
  cases h : getE E' x with
  | none => rw [getE_none_iff] at h ⊢; exact fun p hp' => h p (hp.mem_iff.1 hp')
  | some v => exact getE_some hn (hp.mem_iff.2 (getE_mem h))
theorem delE_none {E : List (α × β)} {x : α} (h : ∀ p ∈ E, p.1 ≠ x) : delE E x = E := List.filter_eq_self.2 fun p hp => by simpa using h p hp
theorem delE_perm {E : List (α × β)} (hn : KeysNodup E) {p : α × β} (hp : p ∈ E) : E.Perm (p :: delE E p.1) := by
  unfold KeysNodup at hn
  induction E with
  | nil => simp at hp
  | cons a r ih =>
    simp only [List.map_cons, List.nodup_cons, List.mem_map, not_exists, not_and] at hn
    rcases List.mem_cons.1 hp with rfl | hp'
    · have : delE (p :: r) p.1 = r := by
        unfold delE
        rw [List.filter_cons_of_neg (by simp)]
        exact List.filter_eq_self.2 fun q hq => by simpa using hn.1 q hq
      rw [this]
    · have hne : a.1 ≠ p.1 := fun e => hn.1 p hp' e.symm
      have : delE (a :: r) p.1 = a :: delE r p.1 := by
        unfold delE
        rw [List.filter_cons_of_pos (by simpa using hne)]
      rw [this]
      exact ((ih hn.2 hp').cons a).trans (List.Perm.swap _ _ _)
theorem delE_nodup {E : List (α × β)} (hn : KeysNodup E) (x : α) : KeysNodup (delE E x) := by
  unfold KeysNodup delE
  exact (List.filter_sublist.map _).nodup hn
theorem putE_nodup {E : List (α × β)} (hn : KeysNodup E) (x : α) (v : β) : KeysNodup (putE E x v) := by
  unfold KeysNodup putE
  simp only [List.map_cons, List.nodup_cons]
  refine ⟨?_, delE_nodup hn x⟩
  simp [delE]
theorem getE_put {E : List (α × β)} (x y : α) (v : β) : getE (putE E x v) y = if x = y then some v else getE E y := by
  unfold getE putE
  by_cases h : x = y
  · simp [h]
  · simp only [List.find?_cons, h, if_false, decide_false]
    unfold delE
    congr 1
    rw [List.find?_filter]
    congr 1
    funext p
    by_cases hp : p.1 = y
    · simp [hp, Ne.symm h]
    · simp [hp]
theorem getE_del {E : List (α × β)} (x y : α) : getE (delE E x) y = if x = y then none else getE E y := by
  by_cases h : x = y
  · subst h; rw [if_pos rfl]; exact getE_none fun p hp => by simpa [delE] using (List.mem_filter.1 hp).2
  · rw [if_neg h]
    unfold getE delE
    congr 1
    rw [List.find?_filter]
    congr 1
    funext p
    by_cases hp : p.1 = y
    · simp [hp, Ne.symm h]
    · simp [hp]
theorem mem_delE {E : List (α × β)} {x : α} {p : α × β} : p ∈ delE E x ↔ p ∈ E ∧ p.1 ≠ x := by simp [delE]

/-- How keys and elements of a map's type lie in memory; 'ok': the keys that may be. -/
structure KV (P : Program) (k e t : TypeId) (eK : α → Value) (ok : α → Prop) : Prop where
  keyed : Keyed P k
  ty : P.underlying t = some (.map k e)
  key : ∀ x, ok x → ∃ l, keyOf P k (eK x) = some l
  inj : ∀ {x y}, eK x = eK y → x = y

/-- Block b is a map of just these pairs. -/
def HoldsMap (eK : α → Value) (eV : β → Value) (ok : α → Prop) (w : World) (b : Nat) (E : List (α × β)) : Prop :=
  ∃ es clock, w.heap[b]? = some (.map es clock) ∧ Stamped es clock ∧ KeysNodup E ∧ (∀ p ∈ E, ok p.1) ∧ (es.toList.map fun x => (x.key, x.val)).Perm (E.map fun p => (eK p.1, eV p.2))

variable {P : Program} {k e t : TypeId} {eK : α → Value} {eV : β → Value} {ok : α → Prop} {w : World} {b : Nat} {E : List (α × β)}

omit [DecidableEq α] in
theorem HoldsMap.lt (h : HoldsMap eK eV ok w b E) : b < w.heap.size := by
  obtain ⟨es, clock, hb, _⟩ := h
  exact (Array.getElem?_eq_some_iff.1 hb).1
omit [DecidableEq α] in
theorem HoldsMap.nodup (h : HoldsMap eK eV ok w b E) : KeysNodup E := h.elim fun _ h => h.elim fun _ h => h.2.2.1
omit [DecidableEq α] in
theorem HoldsMap.oks (h : HoldsMap eK eV ok w b E) : ∀ p ∈ E, ok p.1 := h.elim fun _ h => h.elim fun _ h => h.2.2.2.1
omit [DecidableEq α] in
theorem HoldsMap.perm (h : HoldsMap eK eV ok w b E) {E' : List (α × β)} (hp : E.Perm E') : HoldsMap eK eV ok w b E' := by
  obtain ⟨es, clock, hb, hs, hn, ho, hm⟩ := h
  exact ⟨es, clock, hb, hs, hn.perm hp, fun p h => ho p (hp.mem_iff.2 h), hm.trans (hp.map _)⟩
omit [DecidableEq α] in
theorem HoldsMap.kept {w' : World} {row : Option Nat} (h : HoldsMap eK eV ok w b E) (hg : w.grownBy w' row) (hne : some b ≠ row) : HoldsMap eK eV ok w' b E := by
  have hlt := h.lt
  obtain ⟨es, clock, hb, r⟩ := h
  exact ⟨es, clock, (hg.block b hlt hne).trans hb, r⟩
omit [DecidableEq α] in
theorem HoldsMap.ext {w' : World} {n : Nat} (h : HoldsMap eK eV ok w b E) (hg : Below n w w') (hn : n = w.heap.size) : HoldsMap eK eV ok w' b E := by
  have hlt := h.lt
  obtain ⟨es, clock, hb, r⟩ := h
  exact ⟨es, clock, (hg.block b (hn ▸ hlt)).trans hb, r⟩
omit [DecidableEq α] in
theorem HoldsMap.alloc (h : HoldsMap eK eV ok w b E) (o : Obj) : HoldsMap eK eV ok (w.alloc o) b E := h.kept (World.grownBy_alloc w o none) (by simp)
omit [DecidableEq α] in
theorem HoldsMap.made (w : World) : HoldsMap eK eV ok (w.alloc (.map #[] 0)) w.heap.size ([] : List (α × β)) :=
  ⟨#[], 0, (MapKept.heap_alloc w _).1, stamped_empty 0, by simp [KeysNodup], by simp, by simp⟩
omit [DecidableEq α] in
theorem HoldsMap.set_ne (h : HoldsMap eK eV ok w b E) (a : Addr) (v : Value) (hne : a.block ≠ b) : HoldsMap eK eV ok (w.setCell a v) b E := by
  obtain ⟨es, clock, hb, r⟩ := h
  refine ⟨es, clock, ?_, r⟩
  simp only [World.setCell, Array.getElem?_modify]
  rw [if_neg hne, hb]

omit [DecidableEq α] in
/-- Each entry's key reads as one. -/
theorem entry_key {es : Array MapEntry} (hp : (es.toList.map fun x => (x.key, x.val)).Perm (E.map fun p => (eK p.1, eV p.2))) :
    ∀ x ∈ es.toList, ∃ p ∈ E, x.key = eK p.1 ∧ x.val = eV p.2 := fun x hx => by
  have h1 := hp.mem_iff.1 (List.mem_map.2 ⟨x, hx, rfl⟩)
  obtain ⟨p, hp1, hp2⟩ := List.mem_map.1 h1
  simp only [Prod.mk.injEq] at hp2
  exact ⟨p, hp1, hp2.1.symm, hp2.2.symm⟩
omit [DecidableEq α] in
theorem entry_keys (V : KV P k e t eK ok) {es : Array MapEntry} (ho : ∀ p ∈ E, ok p.1) (hp : (es.toList.map fun x => (x.key, x.val)).Perm (E.map fun p => (eK p.1, eV p.2))) :
    ∀ x ∈ es.toList, ∃ l, keyOf P k x.key = some l := fun x hx => by
  obtain ⟨p, h1, h2, _⟩ := entry_key hp x hx
  obtain ⟨l, hl⟩ := V.key p.1 (ho p h1)
  exact ⟨l, by rw [h2]; exact hl⟩
omit [DecidableEq α] in
theorem no_entry {es : Array MapEntry} (hp : (es.toList.map fun x => (x.key, x.val)).Perm (E.map fun p => (eK p.1, eV p.2))) {x : α} (h : ∀ y ∈ es.toList, y.key ≠ eK x) : ∀ p ∈ E, p.1 ≠ x := fun p hp' e => by
  have h1 := hp.mem_iff.2 (List.mem_map.2 ⟨p, hp', rfl⟩)
  obtain ⟨y, hy, he⟩ := List.mem_map.1 h1
  simp only [Prod.mk.injEq] at he
  exact h y hy (by rw [he.1, e])
theorem perm_erase {γ : Type} : ∀ (l : List γ) (j : Nat) (h : j < l.length), l.Perm (l[j] :: l.eraseIdx j)
  | a :: r, 0, _ => List.Perm.refl _
  | a :: r, j + 1, h => ((perm_erase r j (by simpa using h)).cons a).trans (List.Perm.swap _ _ _)
/-- The entry that is found, and the pair. -/
theorem one_entry (V : KV P k e t eK ok) {es : Array MapEntry} (hn : KeysNodup E) (hp : (es.toList.map fun x => (x.key, x.val)).Perm (E.map fun p => (eK p.1, eV p.2))) {x : α} {j : Nat} {e0 : MapEntry} (h2 : es.toList[j]? = some e0) (h3 : e0.key = eK x) :
    ∃ v, (x, v) ∈ E ∧ e0.val = eV v ∧ getE E x = some v ∧ ((es.toList.map fun x => (x.key, x.val)).eraseIdx j).Perm ((delE E x).map fun p => (eK p.1, eV p.2)) := by
  have hm0 : e0 ∈ es.toList := List.mem_of_getElem? h2
  obtain ⟨p, hp1, hp2, hp3⟩ := entry_key hp e0 hm0
  obtain ⟨y, v⟩ := p
  obtain rfl : y = x := V.inj (by rw [← hp2, h3])
  refine ⟨v, hp1, hp3, getE_some hn hp1, ?_⟩
  have a1 := (delE_perm hn hp1).map fun p : α × β => (eK p.1, eV p.2)
  have a2 : (es.toList.map fun x => (x.key, x.val)).Perm ((e0.key, e0.val) :: (es.toList.map fun x => (x.key, x.val)).eraseIdx j) := by
    have hj : j < (es.toList.map fun x => (x.key, x.val)).length := by simpa using (List.getElem?_eq_some_iff.1 h2).1
    have hg : (es.toList.map fun x => (x.key, x.val))[j] = (e0.key, e0.val) := by
      have := (List.getElem?_eq_some_iff.1 h2).2
      simp only [List.getElem_map, this]
    rw [← hg]
    exact perm_erase _ _ hj
  have a3 := a2.symm.trans (hp.trans a1)
  rw [List.map_cons, hp2, hp3] at a3
  exact a3.cons_inv

/-- 'v, ok := m[k]'. -/
theorem HoldsMap.look (V : KV P k e t eK ok) (h : HoldsMap eK eV ok w b E) {z : Value} (hz : (zeroValue e).run P w = .ok z w) {x : α} (hx : ok x) :
    (Instr.lookup t (.map (some b)) (eK x) true).run P w = .ok (match getE E x with | some v => .tuple #[eV v, .bool true] | none => .tuple #[z, .bool false]) w := by
  obtain ⟨es, clock, hb, hs, hn, ho, hp⟩ := h
  obtain ⟨l, hl⟩ := V.key x hx
  rcases V.keyed.find w hl es.toList (entry_keys V ho hp) with ⟨h1, h2⟩ | ⟨j, e0, h1, h2, h3⟩
  · rw [getE_none (no_entry hp h2)]
    simp [Instr.lookup, run_underlying V.ty, MapKept.run_getObj_map hb, V.keyed.check w _ hl, h1, hz, Result.andThen]
  · obtain ⟨v, _, hv, hg, _⟩ := one_entry V hn hp h2 h3
    rw [hg]
    simp [Instr.lookup, run_underlying V.ty, MapKept.run_getObj_map hb, V.keyed.check w _ hl, h1, Result.andThen, hv]

/-- 'm[k] = v'. -/
theorem HoldsMap.put (V : KV P k e t eK ok) (h : HoldsMap eK eV ok w b E) {x : α} (hx : ok x) (v : β) :
    ∃ w', (Instr.mapUpdate t (.map (some b)) (eK x) (eV v)).run P w = .ok () w' ∧ HoldsMap eK eV ok w' b (putE E x v) ∧ w.grownBy w' (some b) ∧ w'.heap.size = w.heap.size := by
  obtain ⟨es, clock, hb, hs, hn, ho, hp⟩ := h
  obtain ⟨l, hl⟩ := V.key x hx
  have hgr : ∀ o', w.grownBy (setBlock w b o') (some b) := fun o' => ⟨rfl, rfl, rfl, by simp [setBlock], fun i _ hi => heap_setBlock_other hb _ (fun e => hi (by rw [e]))⟩
  have hok : ∀ p ∈ putE E x v, ok p.1 := fun p hp' => by
    rcases List.mem_cons.1 hp' with rfl | h'
    · exact hx
    · exact ho p (List.mem_filter.1 h').1
  rcases V.keyed.find w hl es.toList (entry_keys V ho hp) with ⟨h1, h2⟩ | ⟨j, e0, h1, h2, h3⟩
  · refine ⟨setBlock w b (.map (es.push ⟨eK x, eV v, clock⟩) (clock + 1)), ?_, ⟨_, _, heap_setBlock_same hb _, stamped_push hs h2, putE_nodup hn x v, hok, ?_⟩, hgr _, by simp [setBlock]⟩
    · simp [Instr.mapUpdate, run_underlying V.ty, MapKept.run_getObj_map hb, V.keyed.check w false hl, h1, MapKept.run_setObj_map _ hb, Result.andThen, setBlock]
    · unfold putE
      rw [delE_none (no_entry hp h2), Array.toList_push, List.map_append, List.map_cons]
      exact (List.perm_append_comm.trans ((hp.cons _)))
  · have hj : es[j]? = some e0 := by simpa using h2
    have hjl : j < es.toList.length := (List.getElem?_eq_some_iff.1 h2).1
    have hlist : (es.modify j (fun e' => { e' with key := eK x, val := eV v })).toList = es.toList.set j { e0 with key := eK x, val := eV v } := by rw [Array.toList_modify, modify_eq_set _ _ _ _ h2]
    refine ⟨setBlock w b (.map (es.modify j (fun e' => { e' with key := eK x, val := eV v })) clock), ?_, ⟨_, _, heap_setBlock_same hb _, stamped_modify hs _ _ (fun _ _ => rfl) (fun e' _ he' => by rw [hj] at he'; cases he'; exact h3.symm), putE_nodup hn x v, hok, ?_⟩, hgr _, by simp [setBlock]⟩
    · simp [Instr.mapUpdate, run_underlying V.ty, MapKept.run_getObj_map hb, V.keyed.check w false hl, h1, hj, h3, V.keyed.stays w hl, MapKept.run_setObj_map _ hb, Result.andThen, setBlock]
    · obtain ⟨v0, _, _, _, hpe⟩ := one_entry V hn hp h2 h3
      rw [hlist, List.map_set]
      unfold putE
      rw [List.map_cons]
      exact (set_perm _ _ (by simpa using hjl) _).trans (hpe.cons _)

/-- 'delete(m, k)'. -/
theorem HoldsMap.del {ty : TypeId} (V : KV P k e t eK ok) (h : HoldsMap eK eV ok w b E) {x : α} (hx : ok x) :
    ∃ w', (Builtin.delete_ #[t, k] ty #[.map (some b), eK x]).run P w = .ok (.tuple #[]) w' ∧ HoldsMap eK eV ok w' b (delE E x) ∧ w.grownBy w' (some b) ∧ w'.heap.size = w.heap.size := by
  obtain ⟨es, clock, hb, hs, hn, ho, hp⟩ := h
  obtain ⟨l, hl⟩ := V.key x hx
  have hgr : ∀ o', w.grownBy (setBlock w b o') (some b) := fun o' => ⟨rfl, rfl, rfl, by simp [setBlock], fun i _ hi => heap_setBlock_other hb _ (fun e => hi (by rw [e]))⟩
  have hok : ∀ p ∈ delE E x, ok p.1 := fun p hp' => ho p (List.mem_filter.1 hp').1
  rcases V.keyed.find w hl es.toList (entry_keys V ho hp) with ⟨h1, h2⟩ | ⟨j, e0, h1, h2, h3⟩
  · refine ⟨setBlock w b (.map es clock), ?_, ⟨_, _, heap_setBlock_same hb _, hs, delE_nodup hn x, hok, ?_⟩, hgr _, by simp [setBlock]⟩
    · simp [Builtin.delete_, run_underlying V.ty, MapKept.run_getObj_map hb, V.keyed.check w _ hl, h1, MapKept.run_setObj_map _ hb, Result.andThen, setBlock]
    · rw [delE_none (no_entry hp h2)]; exact hp
  · have hjl : j < es.toList.length := (List.getElem?_eq_some_iff.1 h2).1
    have hjs : j < es.size := by simpa using hjl
    have hsub : (es.eraseIdxIfInBounds j).toList = es.toList.eraseIdx j := by
      unfold Array.eraseIdxIfInBounds
      rw [dif_pos hjs]
      simp
    obtain ⟨v0, _, _, _, hpe⟩ := one_entry V hn hp h2 h3
    refine ⟨setBlock w b (.map (es.eraseIdxIfInBounds j) clock), ?_, ⟨_, _, heap_setBlock_same hb _, stamped_erase hs j, delE_nodup hn x, hok, ?_⟩, hgr _, by simp [setBlock]⟩
    · simp [Builtin.delete_, run_underlying V.ty, MapKept.run_getObj_map hb, V.keyed.check w _ hl, h1, MapKept.run_setObj_map _ hb, Result.andThen, setBlock]
    · rw [hsub, map_eraseIdx]; exact hpe

omit [DecidableEq α] in
/-- 'len(m)'. -/
theorem HoldsMap.len {ty : TypeId} (V : KV P k e t eK ok) (h : HoldsMap eK eV ok w b E) : (Builtin.len_ #[t] ty #[.map (some b)]).run P w = .ok (.int .i64 E.length) w := by
  obtain ⟨es, clock, hb, hs, hn, ho, hp⟩ := h
  have hl : es.size = E.length := by simpa using hp.length_eq
  rw [← hl]
  simp [Builtin.len_, run_underlying V.ty, MapKept.run_getObj_map hb, Result.andThen]
  rfl

/-! ### 'for k, v := range m' under way: R is still to come -/
def Ranging (eK : α → Value) (eV : β → Value) (ok : α → Prop) (w : World) (b r : Nat) (E R : List (α × β)) : Prop :=
  ∃ es clock since seen c0, w.heap[b]? = some (.map es clock) ∧ Stamped es clock ∧ KeysNodup E ∧ (∀ p ∈ E, ok p.1) ∧ (es.toList.map fun x => (x.key, x.val)).Perm (E.map fun p => (eK p.1, eV p.2)) ∧
    w.heap[r]? = some (.mapIter (some b) since seen c0) ∧ (∀ x ∈ es.toList, x.born < since) ∧ ((leftOf es seen).toList.map fun x => (x.key, x.val)).Perm (R.map fun p => (eK p.1, eV p.2)) ∧ (∀ p ∈ R, p ∈ E) ∧ since ≤ c0 ∧ since ≤ clock

omit [DecidableEq α] in
theorem Ranging.holds {r : Nat} {R : List (α × β)} (h : Ranging eK eV ok w b r E R) : HoldsMap eK eV ok w b E := by
  obtain ⟨es, clock, _, _, _, hb, hs, hn, ho, hp, _⟩ := h
  exact ⟨es, clock, hb, hs, hn, ho, hp⟩
omit [DecidableEq α] in
theorem Ranging.lt {r : Nat} {R : List (α × β)} (h : Ranging eK eV ok w b r E R) : r < w.heap.size := by
  obtain ⟨es, clock, _, _, _, _, _, _, _, _, hr, _⟩ := h
  exact (Array.getElem?_eq_some_iff.1 hr).1
omit [DecidableEq α] in
theorem Ranging.sub {r : Nat} {R : List (α × β)} (h : Ranging eK eV ok w b r E R) : ∀ p ∈ R, p ∈ E := by
  obtain ⟨_, _, _, _, _, _, _, _, _, _, _, _, _, hs, _⟩ := h
  exact hs
omit [DecidableEq α] in
theorem Ranging.ne {r : Nat} {R : List (α × β)} (h : Ranging eK eV ok w b r E R) : r ≠ b := by
  obtain ⟨es, clock, _, _, _, hb, _, _, _, _, hr, _⟩ := h
  intro e1
  rw [e1, hb] at hr
  cases hr
omit [DecidableEq α] in
theorem Ranging.kept {r : Nat} {R : List (α × β)} {w' : World} {row : Option Nat} (h : Ranging eK eV ok w b r E R) (hg : w.grownBy w' row) (h1 : some b ≠ row) (h2 : some r ≠ row) : Ranging eK eV ok w' b r E R := by
  have l1 := h.holds.lt
  have l2 := h.lt
  obtain ⟨es, clock, since, seen, c0, hb, hs, hn, ho, hp, hr, rest⟩ := h
  exact ⟨es, clock, since, seen, c0, (hg.block b l1 h1).trans hb, hs, hn, ho, hp, (hg.block r l2 h2).trans hr, rest⟩
omit [DecidableEq α] in
theorem Ranging.ext {r : Nat} {R : List (α × β)} {w' : World} {n : Nat} (h : Ranging eK eV ok w b r E R) (hg : Below n w w') (hn : n = w.heap.size) : Ranging eK eV ok w' b r E R :=
  h.kept (row := none) ⟨hg.os, hg.tape, hg.output, hg.size, fun i hi _ => hg.block i (hn ▸ hi)⟩ (by simp) (by simp)
omit [DecidableEq α] in
theorem HoldsMap.range (V : KV P k e t eK ok) (h : HoldsMap eK eV ok w b E) :
    ∃ w', (Instr.range t (.map (some b))).run P w = .ok (.pointer (some ⟨w.heap.size, 0, none⟩)) w' ∧ Ranging eK eV ok w' b w.heap.size E E ∧ Below w.heap.size w w' ∧ w'.heap.size = w.heap.size + 1 := by
  have hlt := h.lt
  obtain ⟨es, clock, hb, hs, hn, ho, hp⟩ := h
  refine ⟨_, run_range_map w t k e b es clock V.ty hb, ⟨es, clock, clock, #[], clock, ((MapKept.heap_alloc w _).2 b hlt).trans hb, hs, hn, ho, hp, (MapKept.heap_alloc w _).1, hs.1, ?_, fun _ h => h, Nat.le_refl _, Nat.le_refl _⟩, ⟨rfl, rfl, rfl, by simp, fun i hi => (MapKept.heap_alloc w _).2 i hi⟩, by simp⟩
  have : leftOf es #[] = es := by unfold leftOf; exact Array.filter_eq_self.2 (fun x _ => by simp)
  rw [this]; exact hp

omit [DecidableEq α] in
/-- One step: nothing is left; or one of those that are. -/
theorem Ranging.next {r : Nat} {R : List (α × β)} (h : Ranging eK eV ok w b r E R) (ty : TypeId) :
    (R = [] ∧ (Instr.next (.pointer (some ⟨r, 0, none⟩)) false ty).run P w = .ok (.tuple #[.bool false]) w) ∨
    ∃ p R' w', R.Perm (p :: R') ∧ (Instr.next (.pointer (some ⟨r, 0, none⟩)) false ty).run P w = .ok (.tuple #[.bool true, eK p.1, eV p.2]) w' ∧ Ranging eK eV ok w' b r E R' ∧
      w.grownBy w' (some r) ∧ w'.heap.size = w.heap.size ∧ (Instr.entry (.pointer (some ⟨r, 0, none⟩))).run P w' = .ok (.tuple #[eK p.1, eV p.2]) w' := by
  have hne := h.ne
  obtain ⟨es, clock, since, seen, c0, hb, hs, hn, ho, hp, hr, hold, hleft, hsub, hsc, hsk⟩ := h
  rcases run_next_at (P := P) w ty r b since c0 seen es clock hr hb hold hsc with ⟨h0, hrun⟩ | ⟨x, hx, w1, hal, hrun⟩
  · refine Or.inl ⟨?_, hrun⟩
    have := hleft.length_eq
    rw [List.length_map, Array.length_toList, h0, List.length_map] at this
    exact List.eq_nil_of_length_eq_zero this.symm
  · obtain ⟨hem, hes⟩ := mem_left hx
    have hst := (stamped_iff es clock).1 hs
    have hm := hleft.mem_iff.1 (List.mem_map.2 ⟨x, hx, rfl⟩)
    obtain ⟨p, hpR, hpe⟩ := List.mem_map.1 hm
    simp only [Prod.mk.injEq] at hpe
    obtain ⟨R1, R2, rfl⟩ := List.append_of_mem hpR
    have hr1 : w1.heap[r]? = some (.mapIter (some b) since seen c0) := by rcases hal with rfl | rfl <;> exact hr
    have hb1 : w1.heap[b]? = some (.map es clock) := by rcases hal with rfl | rfl <;> exact hb
    have hset := heap_set (o' := .mapIter (some b) since (seen.push x.born) clock) hr1
    have hb' : (setBlock w1 r (.mapIter (some b) since (seen.push x.born) clock)).heap[b]? = some (.map es clock) := (hset.2 b (fun e1 => hne e1.symm)).trans hb1
    have hbn : (es.toList.map (·.born)).Nodup := hst.2.1
    have hl2 : (leftOf es seen).toList.Perm (x :: (leftOf es (seen.push x.born)).toList) := by
      have e1 : (leftOf es seen).toList = es.toList.filter (fun y => !seen.contains y.born) := by unfold leftOf; rw [Array.toList_filter]
      have e2 : (leftOf es (seen.push x.born)).toList = es.toList.filter (fun y => !seen.contains y.born && !(y.born == x.born)) := by
        unfold leftOf; rw [Array.toList_filter]
        congr 1; funext y; rw [contains_push]; simp
      rw [e1, e2]
      have hgen : ∀ l : List MapEntry, (l.map (·.born)).Nodup → x ∈ l → (l.filter (fun y => !seen.contains y.born)).Perm (x :: l.filter (fun y => !seen.contains y.born && !(y.born == x.born))) := by
        intro l
        induction l with
        | nil => intro _ h; simp at h
        | cons a r ih =>
          intro hnn hin
          simp only [List.map_cons, List.nodup_cons, List.mem_map, not_exists, not_and] at hnn
          rcases List.mem_cons.1 hin with rfl | hin'
          · rw [List.filter_cons_of_pos (by simpa using hes), List.filter_cons_of_neg (by simp)]
            rw [show r.filter (fun y => !seen.contains y.born && !(y.born == x.born)) = r.filter (fun y => !seen.contains y.born) from ?_]
            refine List.filter_congr fun y hy => ?_
            have : y.born ≠ x.born := hnn.1 y hy
            simp [this]
          · have hax : a.born ≠ x.born := fun e1 => hnn.1 x hin' e1.symm
            cases hc : seen.contains a.born
            · rw [List.filter_cons_of_pos (by simpa using hc), List.filter_cons_of_pos (by simp [hax]; simpa using hc)]
              exact ((ih hnn.2 hin').cons a).trans (List.Perm.swap _ _ _)
            · rw [List.filter_cons_of_neg (by simpa using hc), List.filter_cons_of_neg (by simp; simpa using fun h => absurd hc (by simpa using h))]
              exact ih hnn.2 hin'
      exact hgen _ hbn hem
    have hperm : (R1 ++ p :: R2).Perm (p :: (R1 ++ R2)) := List.perm_middle
    refine Or.inr ⟨p, R1 ++ R2, _, hperm, by rw [hpe.1, hpe.2]; exact hrun, ⟨es, clock, since, seen.push x.born, clock, hb', hs, hn, ho, hp, hset.1, hold, ?_, fun q hq => hsub q (hperm.mem_iff.2 (List.mem_cons_of_mem _ hq)), hsk, hsk⟩, ?_, ?_, ?_⟩
    · have a1 := (hl2.map fun x => (x.key, x.val)).symm.trans (hleft.trans (hperm.map _))
      simp only [List.map_cons] at a1
      rw [← hpe.1, ← hpe.2] at a1
      exact a1.cons_inv
    · rcases hal with rfl | rfl <;> exact ⟨rfl, rfl, rfl, by simp [setBlock], fun i _ hi => hset.2 i (fun e1 => hi (by rw [e1]))⟩
    · rcases hal with rfl | rfl <;> simp [setBlock]
    · rw [hpe.1, hpe.2]; exact run_entry_at _ r b since seen es clock x hset.1 hb' hem hst.2.1
end

/-! ### at the operations -/
section
variable {α β : Type} [DecidableEq α] {P : Program} {k e t : TypeId} {eK : α → Value} {eV : β → Value} {ok : α → Prop} {b : Nat} {E : List (α × β)} (w : World) {ops : Array Oper} {rest : List Oper} {o : Oper} {a : Act} {Q : Exit → Act → World → Prop}

theorem wpList_look (hg : o.guard = none) (m x : Operand) (hop : o.op = Op.lookup t m x true) (V : KV P k e t eK ok) {z : Value} (hz : (zeroValue e).run P w = .ok z w)
    (hm : a.eval m = .map (some b)) (h : HoldsMap eK eV ok w b E) (key : α) (hx : a.eval x = eK key) (hk : ok key)
    (hK : wpList P ops Q rest (a.put o.dst (match getE E key with | some v => .tuple #[eV v, .bool true] | none => .tuple #[z, .bool false])) w) : wpList P ops Q (o :: rest) a w := by
  refine wpList_plain hg fun K' hK' => ?_
  unfold Oper.wp
  simp only [execOp, hop, hm, hx, Sem.run_bind, h.look V hz hk, Result.andThen]
  exact hK' _ _ hK
theorem wpList_store (hg : o.guard = none) (m x v : Operand) (hop : o.op = Op.mapUpdate t m x v) (V : KV P k e t eK ok)
    (hm : a.eval m = .map (some b)) (h : HoldsMap eK eV ok w b E) (key : α) (val : β) (hx : a.eval x = eK key) (hv : a.eval v = eV val) (hk : ok key)
    (hK : ∀ w', HoldsMap eK eV ok w' b (putE E key val) → w.grownBy w' (some b) → w'.heap.size = w.heap.size → wpList P ops Q rest (a.put o.dst undef) w') : wpList P ops Q (o :: rest) a w := by
  refine wpList_plain hg fun K' hK' => ?_
  obtain ⟨w', hrun, r1, r2, r3⟩ := h.put V hk val
  unfold Oper.wp
  simp [execOp, hop, hm, hx, hv, hrun, Result.andThen]
  exact hK' _ _ (hK w' r1 r2 r3)
theorem wpList_drop (hg : o.guard = none) (m x : Operand) (hop : o.op = Op.call { callee := Callee.builtin Builtin.delete, args := #[m, x], argTypes := #[t, k] }) (V : KV P k e t eK ok)
    (hm : a.eval m = .map (some b)) (h : HoldsMap eK eV ok w b E) (key : α) (hx : a.eval x = eK key) (hk : ok key)
    (hK : ∀ w', HoldsMap eK eV ok w' b (delE E key) → w.grownBy w' (some b) → w'.heap.size = w.heap.size → wpList P ops Q rest (a.put o.dst (.tuple #[])) w') : wpList P ops Q (o :: rest) a w := by
  refine wpList_plain hg fun K' hK' => ?_
  obtain ⟨w', hrun, r1, r2, r3⟩ := h.del (ty := o.type) V hk
  unfold Oper.wp
  simp [execOp, hop, resolve, invoke, builtin, hm, hx, hrun, Result.andThen]
  exact hK' _ _ (hK w' r1 r2 r3)
omit [DecidableEq α] in
theorem wpList_mlen (hg : o.guard = none) (m : Operand) (hop : o.op = Op.call { callee := Callee.builtin Builtin.len, args := #[m], argTypes := #[t] }) (V : KV P k e t eK ok)
    (hm : a.eval m = .map (some b)) (h : HoldsMap eK eV ok w b E) (hK : wpList P ops Q rest (a.put o.dst (.int .i64 E.length)) w) : wpList P ops Q (o :: rest) a w := by
  refine wpList_plain hg fun K' hK' => ?_
  unfold Oper.wp
  simp [execOp, hop, resolve, invoke, builtin, hm, h.len (ty := o.type) V, Result.andThen]
  exact hK' _ _ hK
omit [DecidableEq α] in
theorem wpList_mrange (hg : o.guard = none) (m : Operand) (hop : o.op = Op.range t m) (V : KV P k e t eK ok) (hm : a.eval m = .map (some b)) (h : HoldsMap eK eV ok w b E)
    (hK : ∀ w', Ranging eK eV ok w' b w.heap.size E E → Below w.heap.size w w' → w'.heap.size = w.heap.size + 1 → wpList P ops Q rest (a.put o.dst (.pointer (some ⟨w.heap.size, 0, none⟩))) w') : wpList P ops Q (o :: rest) a w := by
  refine wpList_plain hg fun K' hK' => ?_
  obtain ⟨w', hrun, r1, r2, r3⟩ := h.range V
  unfold Oper.wp
  simp [execOp, hop, hm, hrun, Result.andThen]
  exact hK' _ _ (hK w' r1 r2 r3)
omit [DecidableEq α] in
theorem wpList_mnext {r : Nat} {R : List (α × β)} (hg : o.guard = none) (it : Operand) (hop : o.op = Op.next it false) (hit : a.eval it = .pointer (some ⟨r, 0, none⟩)) (h : Ranging eK eV ok w b r E R)
    (hDone : R = [] → wpList P ops Q rest (a.put o.dst (.tuple #[.bool false])) w)
    (hMore : ∀ p R' w', R.Perm (p :: R') → Ranging eK eV ok w' b r E R' → w.grownBy w' (some r) → w'.heap.size = w.heap.size → (Instr.entry (.pointer (some ⟨r, 0, none⟩))).run P w' = .ok (.tuple #[eK p.1, eV p.2]) w' →
      wpList P ops Q rest (a.put o.dst (.tuple #[.bool true, eK p.1, eV p.2])) w') : wpList P ops Q (o :: rest) a w := by
  refine wpList_plain hg fun K' hK' => ?_
  unfold Oper.wp
  rcases h.next (P := P) o.type with ⟨h0, hrun⟩ | ⟨p, R', w', hp, hrun, hrg, hgr, hsz, hen⟩
  · simp [execOp, hop, hit, hrun, Result.andThen]
    exact hK' _ _ (hDone h0)
  · simp [execOp, hop, hit, hrun, Result.andThen]
    exact hK' _ _ (hMore p R' w' hp hrg hgr hsz hen)
end
end Go.Proofs.Ytnocdecimcpkfaa

namespace Go.Proofs.Ytnocdecimcpkfaa
open Go.RowKit

def M : Int := 18446744073709551616
def V (h l : Int) : Int := h * 18446744073709551616 + l
def fits (n : Int) : Bool := decide (-170141183460469231731687303715884105728 ≤ n) && decide (n ≤ 170141183460469231731687303715884105727)
def cH (n : Int) : Int := if fits n = true then n / 18446744073709551616 else 0
def cL (n : Int) : Int := if fits n = true then n % 18446744073709551616 else 0
def sgn (n : Int) : Int := if n < 0 then -1 else if 0 < n then 1 else 0
def lo (x y : Int) : Int := (x + y) % 18446744073709551616
def cy (x y : Int) : Int := (x + y) / 18446744073709551616
def slo (x y : Int) : Int := (x - y) % 18446744073709551616
def sbo (x y : Int) : Int := if x < y then 1 else 0

/-- The words of a number that is one. -/
structure Ok (h l : Int) : Prop where
  h0 : -9223372036854775808 ≤ h
  h1 : h ≤ 9223372036854775807
  l0 : 0 ≤ l
  l1 : l ≤ 18446744073709551615

theorem fits_iff {n : Int} : fits n = true ↔ -170141183460469231731687303715884105728 ≤ n ∧ n ≤ 170141183460469231731687303715884105727 := by
  simp [fits]
theorem fits_not {n : Int} : fits n = false ↔ ¬ (-170141183460469231731687303715884105728 ≤ n ∧ n ≤ 170141183460469231731687303715884105727) := by
  simp [fits]
theorem fits_V {h l : Int} (k : Ok h l) : fits (V h l) = true := by
  obtain ⟨a, b, c, d⟩ := k; rw [fits_iff]; unfold V; omega
theorem ok_c (n : Int) : Ok (cH n) (cL n) := by
  unfold cH cL
  split
  · rename_i h; rw [fits_iff] at h; exact ⟨by omega, by omega, by omega, by omega⟩
  · exact ⟨by omega, by omega, by omega, by omega⟩
theorem V_c {n : Int} (h : fits n = true) : V (cH n) (cL n) = n := by
  unfold cH cL V; rw [if_pos h, if_pos h]; omega
theorem cH_V {h l : Int} (k : Ok h l) : cH (V h l) = h := by
  have := fits_V k; unfold cH; rw [if_pos this]; obtain ⟨a, b, c, d⟩ := k; unfold V; omega
theorem cL_V {h l : Int} (k : Ok h l) : cL (V h l) = l := by
  have := fits_V k; unfold cL; rw [if_pos this]; obtain ⟨a, b, c, d⟩ := k; unfold V; omega
theorem c_not {n : Int} (h : fits n = false) : cH n = 0 ∧ cL n = 0 := by
  unfold cH cL; rw [h]; exact ⟨rfl, rfl⟩
theorem cy_01 {x y : Int} (h0 : 0 ≤ x) (h1 : x ≤ 18446744073709551615) (k0 : 0 ≤ y) (k1 : y ≤ 18446744073709551615) : 0 ≤ cy x y ∧ cy x y ≤ 1 := by
  unfold cy; omega
theorem sbo_01 (x y : Int) : 0 ≤ sbo x y ∧ sbo x y ≤ 1 := by unfold sbo; split <;> omega
theorem w64 (n : Int) : wrap64 n = (n + 9223372036854775808) % 18446744073709551616 - 9223372036854775808 := by
  simp only [wrap64]

/-- The high word of a sum, as the code has it. -/
def ahi (h1 l1 h2 l2 : Int) : Int := wrap64 (wrap64 (h1 + h2) + cy l1 l2)

theorem add_over {h1 l1 h2 l2 : Int} (k : Ok h1 l1) (q : Ok h2 l2) (c : h1 < 0 ↔ h2 < 0) (d : ¬ (wrap64 (wrap64 (h1 + h2) + cy l1 l2) < 0 ↔ h2 < 0)) : fits (V h1 l1 + V h2 l2) = false := by
  obtain ⟨a1, a2, a3, a4⟩ := k; obtain ⟨b1, b2, b3, b4⟩ := q
  rw [fits_not]; simp only [w64, cy] at d; unfold V; omega
theorem add_in {h1 l1 h2 l2 : Int} (k : Ok h1 l1) (q : Ok h2 l2) (c : (h1 < 0 ↔ h2 < 0) → (wrap64 (wrap64 (h1 + h2) + cy l1 l2) < 0 ↔ h2 < 0)) :
    fits (V h1 l1 + V h2 l2) = true ∧ cH (V h1 l1 + V h2 l2) = wrap64 (wrap64 (h1 + h2) + cy l1 l2) ∧ cL (V h1 l1 + V h2 l2) = lo l1 l2 := by
  obtain ⟨a1, a2, a3, a4⟩ := k; obtain ⟨b1, b2, b3, b4⟩ := q
  have e : fits (V h1 l1 + V h2 l2) = true := by
    rw [fits_iff]; simp only [w64, cy] at c; unfold V; omega
  refine ⟨e, ?_, ?_⟩
  · unfold cH; rw [if_pos e]; rw [fits_iff] at e; simp only [w64, cy] at c ⊢; unfold V at e ⊢; omega
  · unfold cL; rw [if_pos e]; unfold V lo; omega
theorem sub_over {h1 l1 h2 l2 : Int} (k : Ok h1 l1) (q : Ok h2 l2) (c : ¬ (h1 < 0 ↔ h2 < 0)) (d : ¬ (wrap64 (wrap64 (h1 - h2) - sbo l1 l2) < 0 ↔ h1 < 0)) : fits (V h1 l1 - V h2 l2) = false := by
  obtain ⟨a1, a2, a3, a4⟩ := k; obtain ⟨b1, b2, b3, b4⟩ := q
  rw [fits_not]; unfold sbo at d; split at d <;> (simp only [w64] at d; unfold V; omega)
theorem sub_in {h1 l1 h2 l2 : Int} (k : Ok h1 l1) (q : Ok h2 l2) (c : ¬ (h1 < 0 ↔ h2 < 0) → (wrap64 (wrap64 (h1 - h2) - sbo l1 l2) < 0 ↔ h1 < 0)) :
    fits (V h1 l1 - V h2 l2) = true ∧ cH (V h1 l1 - V h2 l2) = wrap64 (wrap64 (h1 - h2) - sbo l1 l2) ∧ cL (V h1 l1 - V h2 l2) = slo l1 l2 := by
  obtain ⟨a1, a2, a3, a4⟩ := k; obtain ⟨b1, b2, b3, b4⟩ := q
  have e : fits (V h1 l1 - V h2 l2) = true := by
    rw [fits_iff]; unfold sbo at c; split at c <;> (simp only [w64] at c; unfold V; omega)
  refine ⟨e, ?_, ?_⟩
  · unfold cH; rw [if_pos e]; rw [fits_iff] at e; unfold sbo at c ⊢; split at c <;> rename_i hs <;> simp only [hs, if_true, if_false] <;> (simp only [w64] at c ⊢; unfold V at e ⊢; omega)
  · unfold cL; rw [if_pos e]; unfold V slo; omega
theorem V_inj {h1 l1 h2 l2 : Int} (k : Ok h1 l1) (q : Ok h2 l2) (e : V h1 l1 = V h2 l2) : h1 = h2 ∧ l1 = l2 := by
  obtain ⟨a1, a2, a3, a4⟩ := k; obtain ⟨b1, b2, b3, b4⟩ := q
  unfold V at e; omega
theorem sg_i64 : IntKind.i64.signed = true := rfl
theorem sg_u64 : IntKind.u64.signed = false := rfl
theorem bv_not (n : Int) : BitVec.ofInt 64 (-1) ^^^ BitVec.ofInt 64 n = BitVec.ofInt 64 (-1 - n) := by
  have h1 : BitVec.ofInt 64 (-1) = BitVec.allOnes 64 := by decide
  have h3 : BitVec.ofInt 64 (-n) = ~~~BitVec.ofInt 64 n + 1#64 := by rw [BitVec.ofInt_neg, BitVec.neg_eq_not_add]
  have h2 : ∀ x : BitVec 64, BitVec.allOnes 64 + (x + 1#64) = x := fun x => by
    rw [BitVec.add_comm x, ← BitVec.add_assoc]
    have : BitVec.allOnes 64 + 1#64 = 0#64 := by decide
    rw [this, BitVec.zero_add]
  rw [Int.sub_eq_add_neg, BitVec.ofInt_add, h3, h1, BitVec.allOnes_xor, h2]
theorem xor_i64 (n : Int) (h0 : -9223372036854775808 ≤ n) (h1 : n ≤ 9223372036854775807) : bits .xor .i64 (-1) n = -1 - n := by
  show IntKind.i64.wrap ((BitVec.ofInt 64 (-1) ^^^ BitVec.ofInt 64 n).toNat : Int) = _
  rw [bv_not, BitVec.toNat_ofInt, IntKind.wrap_i64]
  omega
theorem xor_u64 (n : Int) (h0 : 0 ≤ n) (h1 : n ≤ 18446744073709551615) : bits .xor .u64 IntKind.u64.max n = 18446744073709551615 - n := by
  show IntKind.u64.wrap ((BitVec.ofInt 64 (IntKind.u64.max) ^^^ BitVec.ofInt 64 n).toNat : Int) = _
  have : BitVec.ofInt 64 IntKind.u64.max = BitVec.ofInt 64 (-1) := by decide
  rw [this, bv_not, BitVec.toNat_ofInt, IntKind.wrap_u64]
  omega
/- The document's own answer reckons modulo 2^128. -/
def mH (n : Int) : Int := wrap64 (n / 18446744073709551616)
def mL (n : Int) : Int := n % 18446744073709551616
theorem ok_m (n : Int) : Ok (mH n) (mL n) := by
  unfold mH mL wrap64; exact ⟨by omega, by omega, by omega, by omega⟩
theorem V_m (n : Int) : ∃ k : Int, V (mH n) (mL n) = n + k * 340282366920938463463374607431768211456 := by
  unfold mH mL wrap64 V
  exact ⟨-((n / 18446744073709551616 + 9223372036854775808) / 18446744073709551616), by omega⟩
theorem m_add (n k : Int) : mH (n + k * 340282366920938463463374607431768211456) = mH n ∧ mL (n + k * 340282366920938463463374607431768211456) = mL n := by
  unfold mH mL wrap64; omega
theorem m_c {n : Int} (h : fits n = true) : mH n = cH n ∧ mL n = cL n := by
  unfold cH cL; rw [if_pos h, if_pos h]; rw [fits_iff] at h; unfold mH mL wrap64; omega
theorem m_V {h l : Int} (k : Ok h l) : mH (V h l) = h ∧ mL (V h l) = l := by
  obtain ⟨a, b, c, d⟩ := k; unfold mH mL wrap64 V; omega
theorem m_cong {a b : Int} (k : Int) (e : a = b + k * 340282366920938463463374607431768211456) : mH a = mH b ∧ mL a = mL b := by
  subst e; exact m_add b k
/-- What the words' sum is, as the document's own answer reckons it. -/
theorem m_sum {h1 l1 h2 l2 : Int} (k : Ok h1 l1) (q : Ok h2 l2) : mL (V h1 l1 + V h2 l2) = lo l1 l2 ∧ mH (V h1 l1 + V h2 l2) = wrap64 (wrap64 (h1 + h2) + cy l1 l2) := by
  obtain ⟨a1, a2, a3, a4⟩ := k; obtain ⟨b1, b2, b3, b4⟩ := q
  unfold mL mH lo cy wrap64 V; omega
theorem mul_bound (a b : Int) (a0 : -9223372036854775808 ≤ a) (a1 : a ≤ 9223372036854775807) (b0 : -9223372036854775808 ≤ b) (b1 : b ≤ 9223372036854775807) :
    -85070591730234615865843651857942052864 ≤ a * b ∧ a * b ≤ 85070591730234615865843651857942052864 := by
  have h1 : (a.natAbs : Int) * b.natAbs ≤ 9223372036854775808 * 9223372036854775808 := by
    have : a.natAbs * b.natAbs ≤ 9223372036854775808 * 9223372036854775808 := Nat.mul_le_mul (by omega) (by omega)
    have e : (a.natAbs : Int) * b.natAbs = ((a.natAbs * b.natAbs : Nat) : Int) := (Int.natCast_mul _ _).symm
    rw [e]
    generalize a.natAbs * b.natAbs = p at *
    omega
  have h2 : (a * b).natAbs = a.natAbs * b.natAbs := Int.natAbs_mul a b
  have h3 : ((a * b).natAbs : Int) = (a.natAbs : Int) * b.natAbs := by rw [h2]; exact Int.natCast_mul _ _
  generalize a * b = p at *
  omega
theorem fits_mul (a b : Int) (a0 : -9223372036854775808 ≤ a) (a1 : a ≤ 9223372036854775807) (b0 : -9223372036854775808 ≤ b) (b1 : b ≤ 9223372036854775807) : fits (a * b) = true := by
  have := mul_bound a b a0 a1 b0 b1
  rw [fits_iff]; omega
/-- A product of two ints, out of the product of their words. -/
theorem mul_words (a b : Int) (a0 : -9223372036854775808 ≤ a) (a1 : a ≤ 9223372036854775807) (b0 : -9223372036854775808 ≤ b) (b1 : b ≤ 9223372036854775807) :
    cL (a * b) = (IntKind.u64.wrap a * IntKind.u64.wrap b) % 18446744073709551616 ∧
    (0 ≤ a → 0 ≤ b → cH (a * b) = wrap64 (IntKind.u64.wrap a * IntKind.u64.wrap b / 18446744073709551616)) ∧
    (a < 0 → 0 ≤ b → cH (a * b) = wrap64 (IntKind.u64.wrap (IntKind.u64.wrap a * IntKind.u64.wrap b / 18446744073709551616 - IntKind.u64.wrap b))) ∧
    (0 ≤ a → b < 0 → cH (a * b) = wrap64 (IntKind.u64.wrap (IntKind.u64.wrap a * IntKind.u64.wrap b / 18446744073709551616 - IntKind.u64.wrap a))) ∧
    (a < 0 → b < 0 → cH (a * b) = wrap64 (IntKind.u64.wrap (IntKind.u64.wrap (IntKind.u64.wrap a * IntKind.u64.wrap b / 18446744073709551616 - IntKind.u64.wrap b) - IntKind.u64.wrap a))) := by
  have ef := fits_mul a b a0 a1 b0 b1
  have bd := mul_bound a b a0 a1 b0 b1
  unfold cL cH
  rw [if_pos ef, if_pos ef]
  have ea : a < 0 → IntKind.u64.wrap a = a + 18446744073709551616 := fun h => by rw [IntKind.wrap_u64]; omega
  have ea' : 0 ≤ a → IntKind.u64.wrap a = a := fun h => by rw [IntKind.wrap_u64]; omega
  have eb : b < 0 → IntKind.u64.wrap b = b + 18446744073709551616 := fun h => by rw [IntKind.wrap_u64]; omega
  have eb' : 0 ≤ b → IntKind.u64.wrap b = b := fun h => by rw [IntKind.wrap_u64]; omega
  have m1 : (a + 18446744073709551616) * b = a * b + 18446744073709551616 * b := Int.add_mul _ _ _
  have m2 : a * (b + 18446744073709551616) = a * b + a * 18446744073709551616 := Int.mul_add _ _ _
  have m3 : (a + 18446744073709551616) * (b + 18446744073709551616) = a * b + a * 18446744073709551616 + (18446744073709551616 * b + 18446744073709551616 * 18446744073709551616) := by rw [Int.mul_add, Int.add_mul, Int.add_mul]; omega
  refine ⟨?_, fun ha hb => ?_, fun ha hb => ?_, fun ha hb => ?_, fun ha hb => ?_⟩
  · rcases Int.lt_or_le a 0 with ha | ha <;> rcases Int.lt_or_le b 0 with hb | hb
    · rw [ea ha, eb hb, m3]; generalize a * b = p at *; omega
    · rw [ea ha, eb' hb, m1]; generalize a * b = p at *; omega
    · rw [ea' ha, eb hb, m2]; generalize a * b = p at *; omega
    · rw [ea' ha, eb' hb]
  · rw [ea' ha, eb' hb]; generalize a * b = p at *; unfold wrap64; omega
  · rw [ea ha, eb' hb, m1, IntKind.wrap_u64]; generalize a * b = p at *; unfold wrap64; omega
  · rw [ea' ha, eb hb, m2, IntKind.wrap_u64]; generalize a * b = p at *; unfold wrap64; omega
  · rw [ea ha, eb hb, m3, IntKind.wrap_u64, IntKind.wrap_u64]; generalize a * b = p at *; unfold wrap64; omega
theorem ok_w (x y : Int) : Ok (wrap64 x) (IntKind.u64.wrap y) := by
  rw [IntKind.wrap_u64]; unfold wrap64; exact ⟨by omega, by omega, by omega, by omega⟩
/-- Half by half. -/
theorem halves (X Y : Int) (x0 : 0 ≤ X) (x1 : X ≤ 9223372036854775808) (y0 : 0 ≤ Y) (y1 : Y ≤ 9223372036854775808) :
    V (wrap64 (IntKind.u64.wrap (X / 4294967296 * (Y / 4294967296)))) (IntKind.u64.wrap (X % 4294967296 * (Y % 4294967296))) +
    V (wrap64 (IntKind.u64.wrap (X % 4294967296 * (Y / 4294967296)) / 4294967296)) (IntKind.u64.wrap (IntKind.u64.wrap (X % 4294967296 * (Y / 4294967296)) * 4294967296)) +
    V (wrap64 (IntKind.u64.wrap (X / 4294967296 * (Y % 4294967296)) / 4294967296)) (IntKind.u64.wrap (IntKind.u64.wrap (X / 4294967296 * (Y % 4294967296)) * 4294967296)) = X * Y := by
  have b1 : 0 ≤ X / 4294967296 ∧ X / 4294967296 ≤ 2147483648 := by omega
  have b2 : 0 ≤ X % 4294967296 ∧ X % 4294967296 ≤ 4294967295 := by omega
  have b3 : 0 ≤ Y / 4294967296 ∧ Y / 4294967296 ≤ 2147483648 := by omega
  have b4 : 0 ≤ Y % 4294967296 ∧ Y % 4294967296 ≤ 4294967295 := by omega
  have ex : X = X / 4294967296 * 4294967296 + X % 4294967296 := by omega
  have ey : Y = Y / 4294967296 * 4294967296 + Y % 4294967296 := by omega
  generalize X / 4294967296 = xh at *
  generalize X % 4294967296 = xl at *
  generalize Y / 4294967296 = yh at *
  generalize Y % 4294967296 = yl at *
  have pb : ∀ p q P Q : Int, 0 ≤ p → p ≤ P → 0 ≤ q → q ≤ Q → 0 ≤ p * q ∧ p * q ≤ P * Q := fun p q P Q h1 h2 h3 h4 =>
    ⟨Int.mul_nonneg h1 h3, Int.mul_le_mul h2 h4 h3 (Int.le_trans h1 h2)⟩
  have p1 := pb xh yh _ _ b1.1 b1.2 b3.1 b3.2
  have p2 := pb xl yl _ _ b2.1 b2.2 b4.1 b4.2
  have p3 := pb xl yh _ _ b2.1 b2.2 b3.1 b3.2
  have p4 := pb xh yl _ _ b1.1 b1.2 b4.1 b4.2
  have e : X * Y = xh * yh * 18446744073709551616 + (xh * yl + xl * yh) * 4294967296 + xl * yl := by rw [ex, ey]; grind
  rw [e]
  generalize xh * yh = A at *
  generalize xl * yl = B at *
  generalize xl * yh = C at *
  generalize xh * yl = D at *
  simp only [IntKind.wrap_u64]
  unfold wrap64 V
  omega
theorem sub_m {h1 l1 h2 l2 : Int} (k : Ok h1 l1) (q : Ok h2 l2) :
    ((¬ (h1 < 0 ↔ h2 < 0) ∧ ¬ (mH (V h1 l1 - V h2 l2) < 0 ↔ h1 < 0)) → fits (V h1 l1 - V h2 l2) = false) ∧
    (¬ (¬ (h1 < 0 ↔ h2 < 0) ∧ ¬ (mH (V h1 l1 - V h2 l2) < 0 ↔ h1 < 0)) → fits (V h1 l1 - V h2 l2) = true) := by
  obtain ⟨a1, a2, a3, a4⟩ := k; obtain ⟨b1, b2, b3, b4⟩ := q
  refine ⟨fun h => ?_, fun h => ?_⟩
  · rw [fits_not]; unfold mH wrap64 V at *; omega
  · rw [fits_iff]; unfold mH wrap64 V at *; omega
theorem lo_lt {l1 l2 : Int} (a : 0 ≤ l1) (b : l1 ≤ 18446744073709551615) (c : 0 ≤ l2) (d : l2 ≤ 18446744073709551615) : (lo l1 l2 < l1 → cy l1 l2 = 1) ∧ (l1 ≤ lo l1 l2 → cy l1 l2 = 0) := by
  unfold lo cy; omega
end Go.Proofs.Ytnocdecimcpkfaa

namespace Go.Proofs.Ytnocdecimcpkfaa
open Go.RowKit

structure Pt where
  x : Int
  y : Int
theorem Pt.eq_iff {p q : Pt} : p = q ↔ p.x = q.x ∧ p.y = q.y := by
  cases p; cases q; simp
/-- A word of 64 bits. -/
def W64 (n : Int) : Prop := -9223372036854775808 ≤ n ∧ n ≤ 9223372036854775807
def WP (p : Pt) : Prop := W64 p.x ∧ W64 p.y
def inG (n : Int) : Bool := decide (0 ≤ n ∧ n < 16777216)
def vld (p : Pt) : Bool := inG p.x && inG p.y
def cmpN (a b : Int) : Int := sgn (a - b)
def cmpP (p q : Pt) : Int := if p.x = q.x then cmpN p.y q.y else cmpN p.x q.x
def peq (p q : Pt) : Bool := decide (p.x = q.x) && decide (p.y = q.y)
def det (a b c : Pt) : Int := (b.x - a.x) * (c.y - a.y) - (b.y - a.y) * (c.x - a.x)
def ori (a b c : Pt) : Int := if vld a = true ∧ vld b = true ∧ vld c = true then sgn (det a b c) else 0
theorem inG_iff {n : Int} : inG n = true ↔ 0 ≤ n ∧ n < 16777216 := by simp [inG]
theorem vld_iff {p : Pt} : vld p = true ↔ (0 ≤ p.x ∧ p.x < 16777216) ∧ 0 ≤ p.y ∧ p.y < 16777216 := by simp [vld, inG]
end Go.Proofs.Ytnocdecimcpkfaa
