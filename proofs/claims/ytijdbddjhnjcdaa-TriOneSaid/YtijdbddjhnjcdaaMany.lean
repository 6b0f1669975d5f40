/- A region that draws its order and lays several new blocks, which nothing of its head looks at: whatever the order, the blocks are new, each another one, and one walk in the order of the text serves. -/
import Derived.Test.YtijdbddjhnjcdaaRegion
namespace Go.Proofs.Ytijdbddjhnjcdaa
open Go.RowKit Go.Sort

section
variable {P : Program} {ops : Array Oper} {md : Region.Mode} {C : World → Prop}

/-- An operation that lays a block: its place, its slot, the block's type and first cells. -/
structure Lay where
  at_ : Nat
  slot : Tmp
  type : TypeId
  cells : List Value
/-- The slots of these blocks hold their addresses. -/
def putD (β : Tmp → Nat) : List Tmp → Act → Act
  | [], a => a
  | d :: l, a => (putD β l a).put (some d) (.pointer (some ⟨β d, 0, none⟩))
theorem putD_put {β : Tmp → Nat} {x : Option Tmp} {v : Value} : ∀ {l : List Tmp} {a : Act}, (∀ d, d ∈ l → x ≠ some d) → putD β l (a.put x v) = (putD β l a).put x v
  | [], _, _ => rfl
  | d :: l, a, h => by
    simp only [putD]
    rw [putD_put (fun d' h' => h d' (List.mem_cons_of_mem _ h'))]
    exact Act.put_comm _ v _ (fun d' hd' hd => h d List.mem_cons_self (by rw [hd', ← hd]))
theorem putD_congr {β β' : Tmp → Nat} : ∀ {l : List Tmp} {a : Act}, (∀ d, d ∈ l → β d = β' d) → putD β l a = putD β' l a
  | [], _, _ => rfl
  | d :: l, a, h => by
    simp only [putD]
    rw [putD_congr (fun d' h' => h d' (List.mem_cons_of_mem _ h')), h d List.mem_cons_self]
theorem putD_perm {β : Tmp → Nat} {l l' : List Tmp} (h : l.Perm l') (a : Act) : putD β l a = putD β l' a := by
  induction h with
  | nil => rfl
  | cons x _ ih => simp only [putD, ih]
  | swap x y l =>
    simp only [putD]
    by_cases e : x = y
    · subst e; rfl
    · exact Act.put_comm _ _ _ (fun d hd hd' => e (by cases hd; cases hd'; rfl))
  | trans _ _ ih1 ih2 => exact ih1.trans ih2
theorem exec_putD {o : Oper} (hs : ∀ cs b, o.op ≠ .select cs b) {β : Tmp → Nat} : ∀ {l : List Tmp} {a : Act}, (∀ d, d ∈ l → d ∉ o.looksAt ops) → execOp (putD β l a).eval o = execOp a.eval o
  | [], _, _ => rfl
  | d :: l, a, h => by
    simp only [putD]
    rw [execOp_put (ops := ops) o hs _ (some d) _ (fun d' hd' => by cases hd'; exact h d List.mem_cons_self), exec_putD hs (fun d' h' => h d' (List.mem_cons_of_mem _ h'))]
theorem wanted_putD {o : Oper} {β : Tmp → Nat} : ∀ {l : List Tmp} {a : Act}, (∀ d, d ∈ l → d ∉ o.looksAt ops) → Region.wanted o (yielded ops (putD β l a).tmps) = Region.wanted o (yielded ops a.tmps)
  | [], _, _ => rfl
  | d :: l, a, h => by
    simp only [putD]
    rw [wanted_put o _ (some d) _ (fun d' hd' => by cases hd'; exact h d List.mem_cons_self), wanted_putD (fun d' h' => h d' (List.mem_cons_of_mem _ h'))]

/-- All of these are done. -/
def setAll (K : List Lay) (listed : Array Bool) : Array Bool := K.foldr (fun e m => m.setIfInBounds e.at_ true) listed
theorem setAll_size (K : List Lay) (listed : Array Bool) : (setAll K listed).size = listed.size := by
  induction K with
  | nil => rfl
  | cons e K ih => simp only [setAll, List.foldr_cons] at *; rw [Array.size_setIfInBounds, ih]
theorem setAll_set (K : List Lay) (listed : Array Bool) (i : Nat) : setAll K (listed.setIfInBounds i true) = (setAll K listed).setIfInBounds i true := by
  induction K with
  | nil => rfl
  | cons e K ih =>
    simp only [setAll, List.foldr_cons] at *
    rw [ih]
    by_cases h : i = e.at_
    · rw [h]
    · rw [Array.setIfInBounds_comm _ _ h]
theorem setAll_ne {K : List Lay} {listed : Array Bool} {i : Nat} {d : Bool} (h : ∀ e, e ∈ K → e.at_ ≠ i) : (setAll K listed).getD i d = listed.getD i d := by
  induction K with
  | nil => rfl
  | cons e K ih =>
    have h1 := h e List.mem_cons_self
    have h2 := ih (fun e' h' => h e' (List.mem_cons_of_mem _ h'))
    simp only [setAll, List.foldr_cons] at *
    rw [getD_set_ne d h1]; exact h2
theorem setAll_app (K1 K2 : List Lay) (e : Lay) (listed : Array Bool) : setAll (K1 ++ e :: K2) listed = setAll (K1 ++ K2) (listed.setIfInBounds e.at_ true) := by
  rw [setAll_set]
  induction K1 with
  | nil => rfl
  | cons x K1 ih =>
    simp only [setAll, List.cons_append, List.foldr_cons] at *
    rw [ih]
    by_cases h : e.at_ = x.at_
    · rw [h]
    · rw [Array.setIfInBounds_comm _ _ h]
theorem ready_setAll {K : List Lay} {listed : Array Bool} {i : Nat} (h : i ∈ Region.ready md ops listed) (hne : ∀ e, e ∈ K → e.at_ ≠ i) : i ∈ Region.ready md ops (setAll K listed) := by
  induction K with
  | nil => exact h
  | cons e K ih =>
    have h2 := ih (fun e' h' => hne e' (List.mem_cons_of_mem _ h'))
    simp only [setAll, List.foldr_cons] at *
    exact ready_mono h2 (Ne.symm (hne e List.mem_cons_self))

/-- What the world holds of the blocks that are laid. -/
structure Laid (w0 : World) (J : List Lay) (done : List Tmp) (β : Tmp → Nat) (w : World) : Prop where
  below : Below w0.heap.size w0 w
  box : ∀ e, e ∈ J → e.slot ∈ done → w0.heap.size ≤ β e.slot ∧ Box w (β e.slot) e.cells e.type
  apart : ∀ x, x ∈ done → ∀ y, y ∈ done → x ≠ y → β x ≠ β y
theorem Laid.ext {w0 w w' : World} {J : List Lay} {done : List Tmp} {β : Tmp → Nat} (h : Laid w0 J done β w) (hw : Ext w w') : Laid w0 J done β w' :=
  ⟨Ext.trans (a := w0) h.below hw, fun e he hd => ⟨(h.box e he hd).1, (h.box e he hd).2.ext hw rfl⟩, h.apart⟩

/-- The laying operations are apart from the rest of the head. -/
def manyB (ops : Array Oper) (n : Nat) (J : List Lay) : Bool :=
  J.all fun e => decide (e.at_ < n) && (List.range n).all fun i => i == e.at_ || match ops[i]? with
    | some o => !(o.looksAt ops).contains e.slot && o.dst != some e.slot
    | none => true
theorem manyB_spec {n : Nat} {J : List Lay} (h : manyB ops n J = true) : ∀ e, e ∈ J → e.at_ < n ∧ ∀ i o, i < n → i ≠ e.at_ → ops[i]? = some o → e.slot ∉ o.looksAt ops ∧ o.dst ≠ some e.slot := by
  intro e he
  have h1 := List.all_eq_true.1 h e he
  simp only [Bool.and_eq_true, decide_eq_true_eq] at h1
  refine ⟨h1.1, fun i o hi hne ho => ?_⟩
  have h2 := List.all_eq_true.1 h1.2 i (List.mem_range.2 hi)
  simp only [ho, Bool.or_eq_true, beq_iff_eq, hne, false_or, Bool.and_eq_true, Bool.not_eq_true', bne_iff_ne] at h2
  exact ⟨by simpa using h2.1, h2.2⟩

theorem slot_inj : ∀ {J : List Lay}, (J.map Lay.slot).Nodup → ∀ {x y : Lay}, x ∈ J → y ∈ J → x.slot = y.slot → x = y
  | [], _, _, _, hx, _, _ => by cases hx
  | e :: J, h, x, y, hx, hy, hxy => by
    obtain ⟨h1, h2⟩ := List.nodup_cons.1 h
    rcases List.mem_cons.1 hx with rfl | hx' <;> rcases List.mem_cons.1 hy with rfl | hy'
    · rfl
    · exact absurd (List.mem_map.2 ⟨y, hy', hxy.symm⟩) h1
    · exact absurd (List.mem_map.2 ⟨x, hx', hxy⟩) h1
    · exact slot_inj h2 hx' hy' hxy
theorem at_inj : ∀ {J : List Lay}, (J.map Lay.at_).Nodup → ∀ {x y : Lay}, x ∈ J → y ∈ J → x.at_ = y.at_ → x = y
  | [], _, _, _, hx, _, _ => by cases hx
  | e :: J, h, x, y, hx, hy, hxy => by
    obtain ⟨h1, h2⟩ := List.nodup_cons.1 h
    rcases List.mem_cons.1 hx with rfl | hx' <;> rcases List.mem_cons.1 hy with rfl | hy'
    · rfl
    · exact absurd (List.mem_map.2 ⟨y, hy', hxy.symm⟩) h1
    · exact absurd (List.mem_map.2 ⟨x, hx', hxy⟩) h1
    · exact at_inj h2 hx' hy' hxy
theorem rAny_with_many {n g : Nat} {J : List Lay} {Q : Exit → Act → World → Prop} {Lq : Act → Prop} {l : List Oper} {w0 : World} (hsel : Region.noSelect ops = true)
    (hg : l.length = g) (hl : ∀ k, l[k]? = ops[n + k]?)
    (hJ : ∀ e, e ∈ J → ∃ oj, ops[e.at_]? = some oj ∧ oj.dst = some e.slot ∧ oj.after = #[] ∧ oj.guard = none ∧ ∀ (ρ : Operand → Value) (w : World), (execOp ρ oj).run P w = .ok (.value (.pointer (some ⟨w.heap.size, 0, none⟩))) (w.alloc (.cells e.cells.toArray e.type)))
    (hJs : (J.map Lay.slot).Nodup) (hJa : ∀ e, e ∈ J → ∀ e', e' ∈ J → e.at_ = e'.at_ → e = e') (hB : manyB ops n J = true)
    (hs : Region.sinkB md ops n = true) (hc : Region.chainB md ops n = true) (hn : n < ops.size)
    (hC : ∀ w', Below w0.heap.size w0 w' → C w')
    (hQ : ∀ a w β, Laid w0 J (J.map Lay.slot) β w → Lq a → wpList P ops Q l (putD β (J.map Lay.slot) a) w) :
    ∀ (m f : Nat) (K : List Lay) (done : List Tmp) (β : Tmp → Nat) (listed : Array Bool) (a : Act) (w : World), m = f + K.length → (∀ e, e ∈ K → e ∈ J) → (done ++ K.map Lay.slot).Perm (J.map Lay.slot) →
      (∀ e, e ∈ K → listed.getD e.at_ true = false) → (∀ e, e ∈ J → e.slot ∈ done → listed.getD e.at_ true = true) → (K.map Lay.slot).Nodup →
      HeadInv md ops n listed → Laid w0 J done β w →
      rAny P md ops C n (fun listed' a' => Region.seqB md ops g n listed' = true ∧ Lq a') f (setAll K listed) a → wpAny P md ops Q (m + g) listed (putD β done a) w := by
  have spec := manyB_spec hB
  intro m
  induction m with
  | zero =>
    intro f K done β listed a w hm hKJ hperm hKl hdl hKn inv hw h
    have hf : f = 0 := by omega
    have hK : K = [] := List.length_eq_zero_iff.1 (by omega)
    subst hf hK
    subst hg
    rw [Nat.zero_add]
    simp only [List.map_nil, List.append_nil] at hperm
    refine wpAny_of_seq l n listed _ w hl h.1 ?_
    rw [putD_perm hperm]
    refine hQ a w β ⟨hw.below, fun e he hd => hw.box e he (hperm.mem_iff.2 hd), fun x hx y hy => hw.apart x (hperm.mem_iff.2 hx) y (hperm.mem_iff.2 hy)⟩ h.2
  | succ m ih =>
    intro f K done β listed a w hm hKJ hperm hKl hdl hKn inv hw h
    rw [show m + 1 + g = (m + g) + 1 by omega]
    have hnd : (done ++ K.map Lay.slot).Nodup := hperm.nodup_iff.2 hJs
    -- who may come up now
    have hne : Region.ready md ops listed ≠ [] := by
      cases K with
      | nil =>
        cases f with
        | zero => simp at hm
        | succ f => exact h.1
      | cons e K' =>
        obtain ⟨oj, hoj, _, haft, _⟩ := hJ e (hKJ e List.mem_cons_self)
        intro h0
        have : e.at_ ∈ Region.ready md ops listed := mem_ready.2 ⟨hKl e List.mem_cons_self, oj, hoj, fun x hx => (by rw [haft] at hx; simp at hx)⟩
        rw [h0] at this; cases this
    refine ⟨fun h0 => absurd h0 hne, fun i hi => ?_⟩
    have hiun := (mem_ready.1 hi).1
    by_cases hiK : ∃ e, e ∈ K ∧ e.at_ = i
    · -- a block is laid
      obtain ⟨e, he, rfl⟩ := hiK
      obtain ⟨K1, K2, rfl⟩ := List.append_of_mem he
      obtain ⟨oj, hoj, hd, haft, hgd, hrun⟩ := hJ e (hKJ e he)
      have hlt := (spec e (hKJ e he)).1
      unfold wpOp
      simp only [hoj]
      have hwant : Region.wanted oj (yielded ops (putD β done a).tmps) = true := by simp [Region.wanted, hgd]
      rw [if_pos hwant]
      refine .inl ?_
      unfold Oper.wp
      rw [hrun, Oper.upon_value, hd]
      have hnotdone : e.slot ∉ done := fun hin => by
        have := (List.nodup_append.1 hnd).2.2 e.slot hin e.slot (by simp)
        exact this rfl
      have e1 : ((putD β done a).put (some e.slot) (.pointer (some ⟨w.heap.size, 0, none⟩))) = putD (fun x => if x = e.slot then w.heap.size else β x) (e.slot :: done) a := by
        simp only [putD, if_pos]
        rw [putD_congr (β := β) (β' := fun x => if x = e.slot then w.heap.size else β x) (fun d hdn => (if_neg (fun hh : d = e.slot => hnotdone (hh ▸ hdn))).symm)]
      rw [e1]
      rw [setAll_app] at h
      refine ih f (K1 ++ K2) (e.slot :: done) _ _ a _ (by simp at hm ⊢; omega) (fun x hx => hKJ x (by simp at hx ⊢; rcases hx with hx | hx <;> simp [hx])) ?_ ?_ ?_ ?_ (inv.set hi hlt) ?_ h
      · refine List.Perm.trans ?_ hperm
        simp only [List.map_append, List.map_cons, List.cons_append]
        rw [← List.append_assoc, ← List.append_assoc]
        exact List.perm_middle.symm
      · intro x hx
        have hxK : x ∈ K1 ++ e :: K2 := by simp at hx ⊢; rcases hx with hx | hx <;> simp [hx]
        have hxe : x.at_ ≠ e.at_ := fun hh => by
          have hxx := hJa x (hKJ x hxK) e (hKJ e he) hh
          subst hxx
          simp only [List.map_append, List.map_cons] at hKn
          have h3 := (List.nodup_append.1 hKn)
          rcases List.mem_append.1 hx with hx | hx
          · exact h3.2.2 x.slot (List.mem_map.2 ⟨x, hx, rfl⟩) x.slot List.mem_cons_self rfl
          · exact (List.nodup_cons.1 h3.2.1).1 (List.mem_map.2 ⟨x, hx, rfl⟩)
        rw [getD_set_ne true (Ne.symm hxe)]; exact hKl x hxK
      · intro x hx hxd
        rcases List.mem_cons.1 hxd with hxs | hxs
        · have hxx : x = e := by
            have hp : (J.map Lay.slot).Nodup := hJs
            exact slot_inj hp hx (hKJ e he) hxs
          subst hxx
          have : x.at_ < listed.size := by rw [inv.size]; omega
          simp [this]
        · have := hdl x hx hxs
          by_cases hxe : x.at_ = e.at_
          · rw [hxe] at this; rw [this] at hiun; cases hiun
          · rw [getD_set_ne true (Ne.symm hxe)]; exact this
      · refine hKn.sublist ?_
        simp only [List.map_append, List.map_cons]
        exact List.Sublist.append_left (List.sublist_cons_self _ _) _
      · refine ⟨hw.below.alloc hw.below.size _, fun x hx hxd => ?_, fun x hx y hy hxy => ?_⟩
        · rcases List.mem_cons.1 hxd with hxs | hxs
          · have hxx : x = e := slot_inj hJs hx (hKJ e he) hxs
            subst hxx
            simp only [if_pos]
            exact ⟨hw.below.size, Box.new rfl⟩
          · have hxe : x.slot ≠ e.slot := fun hh => hnotdone (hh ▸ hxs)
            simp only [if_neg hxe]
            exact ⟨(hw.box x hx hxs).1, (hw.box x hx hxs).2.old _⟩
        · have lt : ∀ z, z ∈ done → β z < w.heap.size := fun z hz => by
            have hzJ : z ∈ J.map Lay.slot := hperm.mem_iff.1 (List.mem_append_left _ hz)
            obtain ⟨ez, hez, rfl⟩ := List.mem_map.1 hzJ
            exact (hw.box ez hez hz).2.lt
          rcases List.mem_cons.1 hx with hx | hx <;> rcases List.mem_cons.1 hy with hy | hy
          · exact absurd (hx.trans hy.symm) hxy
          · subst hx; simp only [if_pos, if_neg (fun hh => hxy hh.symm : ¬ y = e.slot)]
            have := lt y hy; omega
          · subst hy; simp only [if_pos, if_neg hxy]
            have := lt x hx; omega
          · simp only [if_neg (fun hh : x = e.slot => hnotdone (hh ▸ hx)), if_neg (fun hh : y = e.slot => hnotdone (hh ▸ hy))]
            exact hw.apart x hx y hy hxy
    · -- another one
      have hiK' : ∀ e, e ∈ K → e.at_ ≠ i := fun e he hh => hiK ⟨e, he, hh⟩
      have hir := ready_setAll (K := K) hi hiK'
      cases f with
      | zero =>
        have h1 := seqB_ready h.1 i hir
        cases K with
        | nil => simp at hm
        | cons e K' =>
          exact absurd hi (tail_waits hs hc hn inv _ e.at_ rfl (spec e (hKJ e List.mem_cons_self)).1 (hKl e List.mem_cons_self) i h1)
      | succ f =>
        obtain ⟨hin, o, v, ho, hy, hK⟩ := h.2 i hir
        have hnoJ : ∀ e, e ∈ J → i ≠ e.at_ := fun e he hh => by
          rcases List.mem_append.1 (hperm.mem_iff.2 (List.mem_map.2 ⟨e, he, rfl⟩)) with hd | hd
          · have := hdl e he hd; rw [← hh] at this; rw [this] at hiun; cases hiun
          · obtain ⟨e', he', hs'⟩ := List.mem_map.1 hd
            have := slot_inj hJs (hKJ e' he') he hs'
            subst this
            exact hiK ⟨e', he', hh.symm⟩
        have hap : ∀ d, d ∈ done → d ∉ o.looksAt ops ∧ o.dst ≠ some d := fun d hd => by
          have hdJ : d ∈ J.map Lay.slot := hperm.mem_iff.1 (List.mem_append_left _ hd)
          obtain ⟨e, he, rfl⟩ := List.mem_map.1 hdJ
          exact (spec e he).2 i o hin (hnoJ e he) ho
        have hy' : rYields P ops C o v (putD β done a) := hy.same (exec_putD (fun cs b => Region.noSelect_spec hsel i o cs b ho) (fun d hd => (hap d hd).1)) (wanted_putD (fun d hd => (hap d hd).1))
        refine wpOp_of_yields ho (hC w hw.below) hy' fun w' hw' => ?_
        rw [← putD_put (fun d hd => (hap d hd).2)]
        refine ih f K done β _ _ w' (by omega) hKJ hperm (fun e he => by rw [getD_set_ne true (Ne.symm (hiK' e he))]; exact hKl e he) (fun e he hd => by rw [getD_set_ne true (hnoJ e he)]; exact hdl e he hd) hKn (inv.set hi hin) (hw.ext hw') ?_
        rw [setAll_set]
        exact hK
/-- A list without the places js. -/
def dropIdx (js : List Nat) : Nat → List Oper → List Oper
  | _, [] => []
  | i, o :: r => if js.contains i = true then dropIdx js (i + 1) r else o :: dropIdx js (i + 1) r
theorem dropIdx_map (js : List Nat) (l : List Oper) : ∀ (n i : Nat), n = l.length - i → ((List.range' i n).filter fun k => !js.contains k).map (fun k => l.toArray[k]?) = (dropIdx js i (l.drop i)).map some := by
  intro n
  induction n with
  | zero => intro i h; rw [List.drop_eq_nil_of_le (by omega)]; rfl
  | succ n ih =>
    intro i h
    have hi : i < l.length := by omega
    rw [List.drop_eq_getElem_cons hi, List.range'_succ]
    simp only [dropIdx, List.filter_cons]
    have := ih (i + 1) (by omega)
    cases hc : js.contains i with
    | true => simp only [Bool.not_true, Bool.false_eq_true, if_false, if_true]; exact this
    | false => simp only [Bool.not_false, if_true, Bool.false_eq_true, if_false, List.map_cons, this]; simp [hi]
theorem dropIdx_take (js : List Nat) (l : List Oper) (n : Nat) (hn : n ≤ l.length) : ((List.range n).filter fun k => !js.contains k).map (fun k => l.toArray[k]?) = (dropIdx js 0 (l.take n)).map some := by
  have h := dropIdx_map js (l.take n) n 0 (by simp; omega)
  rw [List.drop_zero] at h
  rw [← h, List.range_eq_range']
  refine List.map_congr_left fun k hk => ?_
  have := (List.mem_filter.1 hk).1
  simp at this
  simp [this]
theorem wp_region_many {id : Nat} {Q : Exit → Act → World → Prop} {a : Act} {w : World} {l : List Oper} (n : Nat) (J : List Lay)
    (hJ : ∀ e, e ∈ J → ∃ oj, l.toArray[e.at_]? = some oj ∧ oj.dst = some e.slot ∧ oj.after = #[] ∧ oj.guard = none ∧ ∀ (ρ : Operand → Value) (w : World), (execOp ρ oj).run P w = .ok (.value (.pointer (some ⟨w.heap.size, 0, none⟩))) (w.alloc (.cells e.cells.toArray e.type)))
    (hm : P.follows .mixedOrders = true) (hJs : (J.map Lay.slot).Nodup) (hJa : (J.map Lay.at_).Nodup)
    (hB : (Region.noSelect l.toArray && decide (n < l.toArray.size) && Region.sinkB .any l.toArray n && Region.chainB .any l.toArray n && manyB l.toArray n J &&
      orderB .any l.toArray n (l.toArray.size - n) ((List.range n).filter fun i => !(J.map Lay.at_).contains i) (setAll J (Array.replicate l.toArray.size false))) = true)
    (hcount : ((List.range n).filter fun i => !(J.map Lay.at_).contains i).length + J.length = n)
    (hC : ∀ w', Below w.heap.size w w' → C w')
    (h : rWalk P l.toArray C (fun a' => ∀ w' β, Laid w J (J.map Lay.slot) β w' → wpList P l.toArray Q (l.drop n) (putD β (J.map Lay.slot) a') w') (dropIdx (J.map Lay.at_) 0 (l.take n)) a) :
    (Code.region id l.toArray true).wp P Q a w := by
  simp only [Bool.and_eq_true, decide_eq_true_eq] at hB
  obtain ⟨⟨⟨⟨⟨hsel, hn⟩, hs⟩, hc⟩, hmB⟩, ho⟩ := hB
  have spec := manyB_spec hmB
  have hJa' : ∀ e, e ∈ J → ∀ e', e' ∈ J → e.at_ = e'.at_ → e = e' := fun e he e' he' heq => at_inj hJa he he' heq
  -- the laying operations may come up in any order from the start
  have inv1 : ∀ listed, HeadInv .any l.toArray n listed → TailWaits .any l.toArray n listed := fun listed inv i hi hun => tail_waits hs hc hn inv _ i rfl hi hun
  have invJ : ∀ K : List Lay, (∀ e, e ∈ K → e ∈ J) → (K.map Lay.at_).Nodup → HeadInv .any l.toArray n (setAll K (Array.replicate l.toArray.size false)) := by
    intro K
    induction K with
    | nil => intro _ _; exact headInv0
    | cons e K ih =>
      intro hK hnd
      have hnd' := List.nodup_cons.1 hnd
      have := ih (fun x hx => hK x (List.mem_cons_of_mem _ hx)) hnd'.2
      obtain ⟨oj, hoj, _, haft, _⟩ := hJ e (hK e List.mem_cons_self)
      have hlt := (spec e (hK e List.mem_cons_self)).1
      refine this.set (mem_ready.2 ⟨?_, oj, hoj, fun x hx => (by rw [haft] at hx; simp at hx)⟩) hlt
      rw [setAll_ne (fun x hx hh => hnd'.1 (List.mem_map.2 ⟨x, hx, hh⟩))]
      exact getD_in (by simp at hn ⊢; omega) (getD_replicate_false _ _)
  have H := rAny_order (md := .any) (g := l.toArray.size - n) hsel (HeadInv .any l.toArray n) (fun listed j inv hj hjn => inv.set hj hjn) inv1 _ _ _ a (dropIdx_take (J.map Lay.at_) l n (by simp at hn; omega)) (invJ J (fun _ h => h) hJa) ho h
  refine wp_region_any hm ?_
  have := rAny_with_many (md := .any) (Q := Q) (l := l.drop n) (w0 := w) (g := l.toArray.size - n) hsel (by simp) (fun j => by simp [List.getElem?_drop]) hJ hJs hJa' hmB hs hc hn hC
    (fun a' w' β hL hl => hl w' β hL) _ _ J [] (fun _ => 0) (Array.replicate l.toArray.size false) a { w with drawn := w.drawn + 1 } rfl (fun _ h => h) (by simp)
    (fun e he => getD_in (by simp; have := (spec e he).1; simp at hn; omega) (getD_replicate_false _ _)) (fun e _ hd => (by cases hd)) hJs headInv0
    ⟨⟨rfl, rfl, rfl, Nat.le_refl _, fun _ _ => rfl⟩, (fun e _ hd => (by cases hd)), (fun x hx => (by cases hx))⟩ H
  rw [hcount, show n + (l.toArray.size - n) = l.toArray.size by omega] at this
  exact this
end
end Go.Proofs.Ytijdbddjhnjcdaa
