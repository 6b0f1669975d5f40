/- Put together: Many, Late. -/
import Derived.Test.YtnocdecimcpkfaaPut1
namespace Go.Proofs.Ytnocdecimcpkfaa
open Go.RowKit Go.Sort

section
variable {P : Program} {ops : Array Oper} {md : Region.Mode} {C : World → Prop}

/-- An operation that lays a block: its place, its slot, the block's type and first cells. -/
structure Lay where
  at_ : Nat
  slot : Tmp
  type : TypeId
  cells : List Value
/-- The slots of these blocks hold their addresses. -/
def putD (β : Tmp → Nat) : List Tmp → Act → Act
  | [], a => a
  | d :: l, a => (putD β l a).put (some d) (.pointer (some ⟨β d, 0, none⟩))
theorem putD_put {β : Tmp → Nat} {x : Option Tmp} {v : Value} : ∀ {l : List Tmp} {a : Act}, (∀ d, d ∈ l → x ≠ some d) → putD β l (a.put x v) = (putD β l a).put x v
  | [], _, _ => rfl
  | d :: l, a, h => by
    simp only [putD]
    rw [putD_put (fun d' h' => h d' (List.mem_cons_of_mem _ h'))]
    exact Act.put_comm _ v _ (fun d' hd' hd => h d List.mem_cons_self (by rw [hd', ← hd]))
theorem putD_congr {β β' : Tmp → Nat} : ∀ {l : List Tmp} {a : Act}, (∀ d, d ∈ l → β d = β' d) → putD β l a = putD β' l a
  | [], _, _ => rfl
  | d :: l, a, h => by
    simp only [putD]
    rw [putD_congr (fun d' h' => h d' (List.mem_cons_of_mem _ h')), h d List.mem_cons_self]
theorem putD_perm {β : Tmp → Nat} {l l' : List Tmp} (h : l.Perm l') (a : Act) : putD β l a = putD β l' a := by
  induction h with
  | nil => rfl
  | cons x _ ih => simp only [putD, ih]
  | swap x y l =>
    simp only [putD]
    by_cases e : x = y
    · subst e; rfl
    · exact Act.put_comm _ _ _ (fun d hd hd' => e (by cases hd; cases hd'; rfl))
  | trans _ _ ih1 ih2 => exact ih1.trans ih2
theorem exec_putD {o : Oper} (hs : ∀ cs b, o.op ≠ .select cs b) {β : Tmp → Nat} : ∀ {l : List Tmp} {a : Act}, (∀ d, d ∈ l → d ∉ o.looksAt ops) → execOp (putD β l a).eval o = execOp a.eval o
  | [], _, _ => rfl
  | d :: l, a, h => by
    simp only [putD]
    rw [execOp_put (ops := ops) o hs _ (some d) _ (fun d' hd' => by cases hd'; exact h d List.mem_cons_self), exec_putD hs (fun d' h' => h d' (List.mem_cons_of_mem _ h'))]
theorem wanted_putD {o : Oper} {β : Tmp → Nat} : ∀ {l : List Tmp} {a : Act}, (∀ d, d ∈ l → d ∉ o.looksAt ops) → Region.wanted o (yielded ops (putD β l a).tmps) = Region.wanted o (yielded ops a.tmps)
  | [], _, _ => rfl
  | d :: l, a, h => by
    simp only [putD]
    rw [wanted_put o _ (some d) _ (fun d' hd' => by cases hd'; exact h d List.mem_cons_self), wanted_putD (fun d' h' => h d' (List.mem_cons_of_mem _ h'))]

/-- All of these are done. -/
def setAll (K : List Lay) (listed : Array Bool) : Array Bool := K.foldr (fun e m => m.setIfInBounds e.at_ true) listed
theorem setAll_size (K : List Lay) (listed : Array Bool) : (setAll K listed).size = listed.size := by
  induction K with
  | nil => rfl
  | cons e K ih => simp only [setAll, List.foldr_cons] at *; rw [Array.size_setIfInBounds, ih]
theorem setAll_set (K : List Lay) (listed : Array Bool) (i : Nat) : setAll K (listed.setIfInBounds i true) = (setAll K listed).setIfInBounds i true := by
  induction K with
  | nil => rfl
  | cons e K ih =>
    simp only [setAll, List.foldr_cons] at *
    rw [ih]
    by_cases h : i = e.at_
    · rw [h]
    · rw [Array.setIfInBounds_comm _ _ h]
theorem setAll_ne {K : List Lay} {listed : Array Bool} {i : Nat} {d : Bool} (h : ∀ e, e ∈ K → e.at_ ≠ i) : (setAll K listed).getD i d = listed.getD i d := by
  induction K with
  | nil => rfl
  | cons e K ih =>
    have h1 := h e List.mem_cons_self
    have h2 := ih (fun e' h' => h e' (List.mem_cons_of_mem _ h'))
    simp only [setAll, List.foldr_cons] at *
    rw [getD_set_ne d h1]; exact h2
theorem setAll_app (K1 K2 : List Lay) (e : Lay) (listed : Array Bool) : setAll (K1 ++ e :: K2) listed = setAll (K1 ++ K2) (listed.setIfInBounds e.at_ true) := by
  rw [setAll_set]
  induction K1 with
  | nil => rfl
  | cons x K1 ih =>
    simp only [setAll, List.cons_append, List.foldr_cons] at *
    rw [ih]
    by_cases h : e.at_ = x.at_
    · rw [h]
    · rw [Array.setIfInBounds_comm _ _ h]
theorem ready_setAll {K : List Lay} {listed : Array Bool} {i : Nat} (h : i ∈ Region.ready md ops listed) (hne : ∀ e, e ∈ K → e.at_ ≠ i) : i ∈ Region.ready md ops (setAll K listed) := by
  induction K with
  | nil => exact h
  | cons e K ih =>
    have h2 := ih (fun e' h' => hne e' (List.mem_cons_of_mem _ h'))
    simp only [setAll, List.foldr_cons] at *
    exact ready_mono h2 (Ne.symm (hne e List.mem_cons_self))

/-- What the world holds of the blocks that are laid. -/
structure Laid (w0 : World) (J : List Lay) (done : List Tmp) (β : Tmp → Nat) (w : World) : Prop where
  below : Below w0.heap.size w0 w
  box : ∀ e, e ∈ J → e.slot ∈ done → w0.heap.size ≤ β e.slot ∧ Box w (β e.slot) e.cells e.type
  apart : ∀ x, x ∈ done → ∀ y, y ∈ done → x ≠ y → β x ≠ β y
theorem Laid.ext {w0 w w' : World} {J : List Lay} {done : List Tmp} {β : Tmp → Nat} (h : Laid w0 J done β w) (hw : Ext w w') : Laid w0 J done β w' :=
  ⟨Ext.trans (a := w0) h.below hw, fun e he hd => ⟨(h.box e he hd).1, (h.box e he hd).2.ext hw rfl⟩, h.apart⟩

/-- The laying operations are apart from the rest of the head. -/
def manyB (ops : Array Oper) (n : Nat) (J : List Lay) : Bool :=
  J.all fun e => decide (e.at_ < n) && (List.range n).all fun i => i == e.at_ || match ops[i]? with
    | some o => !(o.looksAt ops).contains e.slot && o.dst != some e.slot
    | none => true
theorem manyB_spec {n : Nat} {J : List Lay} (h : manyB ops n J = true) : ∀ e, e ∈ J → e.at_ < n ∧ ∀ i o, i < n → i ≠ e.at_ → ops[i]? = some o → e.slot ∉ o.looksAt ops ∧ o.dst ≠ some e.slot := by
  intro e he
  have h1 := List.all_eq_true.1 h e he
  simp only [Bool.and_eq_true, decide_eq_true_eq] at h1
  refine ⟨h1.1, fun i o hi hne ho => ?_⟩
  have h2 := List.all_eq_true.1 h1.2 i (List.mem_range.2 hi)
  simp only [ho, Bool.or_eq_true, beq_iff_eq, hne, false_or, Bool.and_eq_true, Bool.not_eq_true', bne_iff_ne] at h2
  exact ⟨by simpa using h2.1, h2.2⟩

theorem slot_inj : ∀ {J : List Lay}, (J.map Lay.slot).Nodup → ∀ {x y : Lay}, x ∈ J → y ∈ J → x.slot = y.slot → x = y
  | [], _, _, _, hx, _, _ => by cases hx
  | e :: J, h, x, y, hx, hy, hxy => by
    obtain ⟨h1, h2⟩ := List.nodup_cons.1 h
    rcases List.mem_cons.1 hx with rfl | hx' <;> rcases List.mem_cons.1 hy with rfl | hy'
    · rfl
    · exact absurd (List.mem_map.2 ⟨y, hy', hxy.symm⟩) h1
    · exact absurd (List.mem_map.2 ⟨x, hx', hxy⟩) h1
    · exact slot_inj h2 hx' hy' hxy
theorem at_inj : ∀ {J : List Lay}, (J.map Lay.at_).Nodup → ∀ {x y : Lay}, x ∈ J → y ∈ J → x.at_ = y.at_ → x = y
  | [], _, _, _, hx, _, _ => by cases hx
  | e :: J, h, x, y, hx, hy, hxy => by
    obtain ⟨h1, h2⟩ := List.nodup_cons.1 h
    rcases List.mem_cons.1 hx with rfl | hx' <;> rcases List.mem_cons.1 hy with rfl | hy'
    · rfl
    · exact absurd (List.mem_map.2 ⟨y, hy', hxy.symm⟩) h1
    · exact absurd (List.mem_map.2 ⟨x, hx', hxy⟩) h1
    · exact at_inj h2 hx' hy' hxy
theorem rAny_with_many {n g : Nat} {J : List Lay} {Q : Exit → Act → World → Prop} {Lq : Act → Prop} {l : List Oper} {w0 : World} (hsel : Region.noSelect ops = true)
    (hg : l.length = g) (hl : ∀ k, l[k]? = ops[n + k]?)
    (hJ : ∀ e, e ∈ J → ∃ oj, ops[e.at_]? = some oj ∧ oj.dst = some e.slot ∧ oj.after = #[] ∧ oj.guard = none ∧ ∀ (ρ : Operand → Value) (w : World), (execOp ρ oj).run P w = .ok (.value (.pointer (some ⟨w.heap.size, 0, none⟩))) (w.alloc (.cells e.cells.toArray e.type)))
    (hJs : (J.map Lay.slot).Nodup) (hJa : ∀ e, e ∈ J → ∀ e', e' ∈ J → e.at_ = e'.at_ → e = e') (hB : manyB ops n J = true)
    (hs : Region.sinkB md ops n = true) (hc : Region.chainB md ops n = true) (hn : n < ops.size)
    (hC : ∀ w', Below w0.heap.size w0 w' → C w')
    (hQ : ∀ a w β, Laid w0 J (J.map Lay.slot) β w → Lq a → wpList P ops Q l (putD β (J.map Lay.slot) a) w) :
    ∀ (m f : Nat) (K : List Lay) (done : List Tmp) (β : Tmp → Nat) (listed : Array Bool) (a : Act) (w : World), m = f + K.length → (∀ e, e ∈ K → e ∈ J) → (done ++ K.map Lay.slot).Perm (J.map Lay.slot) →
      (∀ e, e ∈ K → listed.getD e.at_ true = false) → (∀ e, e ∈ J → e.slot ∈ done → listed.getD e.at_ true = true) → (K.map Lay.slot).Nodup →
      HeadInv md ops n listed → Laid w0 J done β w →
      rAny P md ops C n (fun listed' a' => Region.seqB md ops g n listed' = true ∧ Lq a') f (setAll K listed) a → wpAny P md ops Q (m + g) listed (putD β done a) w := by
  have spec := manyB_spec hB
  intro m
  induction m with
  | zero =>
    intro f K done β listed a w hm hKJ hperm hKl hdl hKn inv hw h
    have hf : f = 0 := by omega
    have hK : K = [] := List.length_eq_zero_iff.1 (by omega)
    subst hf hK
    subst hg
    rw [Nat.zero_add]
    simp only [List.map_nil, List.append_nil] at hperm
    refine wpAny_of_seq l n listed _ w hl h.1 ?_
    rw [putD_perm hperm]
    refine hQ a w β ⟨hw.below, fun e he hd => hw.box e he (hperm.mem_iff.2 hd), fun x hx y hy => hw.apart x (hperm.mem_iff.2 hx) y (hperm.mem_iff.2 hy)⟩ h.2
  | succ m ih =>
    intro f K done β listed a w hm hKJ hperm hKl hdl hKn inv hw h
    rw [show m + 1 + g = (m + g) + 1 by omega]
    have hnd : (done ++ K.map Lay.slot).Nodup := hperm.nodup_iff.2 hJs
    -- who may come up now
    have hne : Region.ready md ops listed ≠ [] := by
      cases K with
      | nil =>
        cases f with
        | zero => simp at hm
        | succ f => exact h.1
      | cons e K' =>
        obtain ⟨oj, hoj, _, haft, _⟩ := hJ e (hKJ e List.mem_cons_self)
        intro h0
        have : e.at_ ∈ Region.ready md ops listed := mem_ready.2 ⟨hKl e List.mem_cons_self, oj, hoj, fun x hx => (by rw [haft] at hx; simp at hx)⟩
        rw [h0] at this; cases this
    refine ⟨fun h0 => absurd h0 hne, fun i hi => ?_⟩
    have hiun := (mem_ready.1 hi).1
    by_cases hiK : ∃ e, e ∈ K ∧ e.at_ = i
    · -- a block is laid
      obtain ⟨e, he, rfl⟩ := hiK
      obtain ⟨K1, K2, rfl⟩ := List.append_of_mem he
      obtain ⟨oj, hoj, hd, haft, hgd, hrun⟩ := hJ e (hKJ e he)
      have hlt := (spec e (hKJ e he)).1
      unfold wpOp
      simp only [hoj]
      have hwant : Region.wanted oj (yielded ops (putD β done a).tmps) = true := by simp [Region.wanted, hgd]
      rw [if_pos hwant]
      refine .inl ?_
      unfold Oper.wp
      rw [hrun, Oper.upon_value, hd]
      have hnotdone : e.slot ∉ done := fun hin => by
        have := (List.nodup_append.1 hnd).2.2 e.slot hin e.slot (by simp)
        exact this rfl
      have e1 : ((putD β done a).put (some e.slot) (.pointer (some ⟨w.heap.size, 0, none⟩))) = putD (fun x => if x = e.slot then w.heap.size else β x) (e.slot :: done) a := by
        simp only [putD, if_pos]
        rw [putD_congr (β := β) (β' := fun x => if x = e.slot then w.heap.size else β x) (fun d hdn => (if_neg (fun hh : d = e.slot => hnotdone (hh ▸ hdn))).symm)]
      rw [e1]
      rw [setAll_app] at h
      refine ih f (K1 ++ K2) (e.slot :: done) _ _ a _ (by simp at hm ⊢; omega) (fun x hx => hKJ x (by simp at hx ⊢; rcases hx with hx | hx <;> simp [hx])) ?_ ?_ ?_ ?_ (inv.set hi hlt) ?_ h
      · refine List.Perm.trans ?_ hperm
        simp only [List.map_append, List.map_cons, List.cons_append]
        rw [← List.append_assoc, ← List.append_assoc]
        exact List.perm_middle.symm
      · intro x hx
        have hxK : x ∈ K1 ++ e :: K2 := by simp at hx ⊢; rcases hx with hx | hx <;> simp [hx]
        have hxe : x.at_ ≠ e.at_ := fun hh => by
          have hxx := hJa x (hKJ x hxK) e (hKJ e he) hh
          subst hxx
          simp only [List.map_append, List.map_cons] at hKn
          have h3 := (List.nodup_append.1 hKn)
          rcases List.mem_append.1 hx with hx | hx
          · exact h3.2.2 x.slot (List.mem_map.2 ⟨x, hx, rfl⟩) x.slot List.mem_cons_self rfl
          · exact (List.nodup_cons.1 h3.2.1).1 (List.mem_map.2 ⟨x, hx, rfl⟩)
        rw [getD_set_ne true (Ne.symm hxe)]; exact hKl x hxK
      · intro x hx hxd
        rcases List.mem_cons.1 hxd with hxs | hxs
        · have hxx : x = e := by
            have hp : (J.map Lay.slot).Nodup := hJs
            exact slot_inj hp hx (hKJ e he) hxs
          subst hxx
          have : x.at_ < listed.size := by rw [inv.size]; omega
          simp [this]
        · have := hdl x hx hxs
          by_cases hxe : x.at_ = e.at_
          · rw [hxe] at this; rw [this] at hiun; cases hiun
          · rw [getD_set_ne true (Ne.symm hxe)]; exact this
      · refine hKn.sublist ?_
        simp only [List.map_append, List.map_cons]
        exact List.Sublist.append_left (List.sublist_cons_self _ _) _
      · refine ⟨hw.below.alloc hw.below.size _, fun x hx hxd => ?_, fun x hx y hy hxy => ?_⟩
        · rcases List.mem_cons.1 hxd with hxs | hxs
          · have hxx : x = e := slot_inj hJs hx (hKJ e he) hxs
            subst hxx
            simp only [if_pos]
            exact ⟨hw.below.size, Box.new rfl⟩
          · have hxe : x.slot ≠ e.slot := fun hh => hnotdone (hh ▸ hxs)
            simp only [if_neg hxe]
            exact ⟨(hw.box x hx hxs).1, (hw.box x hx hxs).2.old _⟩
        · have lt : ∀ z, z ∈ done → β z < w.heap.size := fun z hz => by
            have hzJ : z ∈ J.map Lay.slot := hperm.mem_iff.1 (List.mem_append_left _ hz)
            obtain ⟨ez, hez, rfl⟩ := List.mem_map.1 hzJ
            exact (hw.box ez hez hz).2.lt
          rcases List.mem_cons.1 hx with hx | hx <;> rcases List.mem_cons.1 hy with hy | hy
          · exact absurd (hx.trans hy.symm) hxy
          · subst hx; simp only [if_pos, if_neg (fun hh => hxy hh.symm : ¬ y = e.slot)]
            have := lt y hy; omega
          · subst hy; simp only [if_pos, if_neg hxy]
            have := lt x hx; omega
          · simp only [if_neg (fun hh : x = e.slot => hnotdone (hh ▸ hx)), if_neg (fun hh : y = e.slot => hnotdone (hh ▸ hy))]
            exact hw.apart x hx y hy hxy
    · -- another one
      have hiK' : ∀ e, e ∈ K → e.at_ ≠ i := fun e he hh => hiK ⟨e, he, hh⟩
      have hir := ready_setAll (K := K) hi hiK'
      cases f with
      | zero =>
        have h1 := seqB_ready h.1 i hir
        cases K with
        | nil => simp at hm
        | cons e K' =>
          exact absurd hi (tail_waits hs hc hn inv _ e.at_ rfl (spec e (hKJ e List.mem_cons_self)).1 (hKl e List.mem_cons_self) i h1)
      | succ f =>
        obtain ⟨hin, o, v, ho, hy, hK⟩ := h.2 i hir
        have hnoJ : ∀ e, e ∈ J → i ≠ e.at_ := fun e he hh => by
          rcases List.mem_append.1 (hperm.mem_iff.2 (List.mem_map.2 ⟨e, he, rfl⟩)) with hd | hd
          · have := hdl e he hd; rw [← hh] at this; rw [this] at hiun; cases hiun
          · obtain ⟨e', he', hs'⟩ := List.mem_map.1 hd
            have := slot_inj hJs (hKJ e' he') he hs'
            subst this
            exact hiK ⟨e', he', hh.symm⟩
        have hap : ∀ d, d ∈ done → d ∉ o.looksAt ops ∧ o.dst ≠ some d := fun d hd => by
          have hdJ : d ∈ J.map Lay.slot := hperm.mem_iff.1 (List.mem_append_left _ hd)
          obtain ⟨e, he, rfl⟩ := List.mem_map.1 hdJ
          exact (spec e he).2 i o hin (hnoJ e he) ho
        have hy' : rYields P ops C o v (putD β done a) := hy.same (exec_putD (fun cs b => Region.noSelect_spec hsel i o cs b ho) (fun d hd => (hap d hd).1)) (wanted_putD (fun d hd => (hap d hd).1))
        refine wpOp_of_yields ho (hC w hw.below) hy' fun w' hw' => ?_
        rw [← putD_put (fun d hd => (hap d hd).2)]
        refine ih f K done β _ _ w' (by omega) hKJ hperm (fun e he => by rw [getD_set_ne true (Ne.symm (hiK' e he))]; exact hKl e he) (fun e he hd => by rw [getD_set_ne true (hnoJ e he)]; exact hdl e he hd) hKn (inv.set hi hin) (hw.ext hw') ?_
        rw [setAll_set]
        exact hK
/-- A list without the places js. -/
def dropIdx (js : List Nat) : Nat → List Oper → List Oper
  | _, [] => []
  | i, o :: r => if js.contains i = true then dropIdx js (i + 1) r else o :: dropIdx js (i + 1) r
theorem dropIdx_map (js : List Nat) (l : List Oper) : ∀ (n i : Nat), n = l.length - i → ((List.range' i n).filter fun k => !js.contains k).map (fun k => l.toArray[k]?) = (dropIdx js i (l.drop i)).map some := by
  intro n
  induction n with
  | zero => intro i h; rw [List.drop_eq_nil_of_le (by omega)]; rfl
  | succ n ih =>
    intro i h
    have hi : i < l.length := by omega
    rw [List.drop_eq_getElem_cons hi, List.range'_succ]
    simp only [dropIdx, List.filter_cons]
    have := ih (i + 1) (by omega)
    cases hc : js.contains i with
    | true => simp only [Bool.not_true, Bool.false_eq_true, if_false, if_true]; exact this
    | false => simp only [Bool.not_false, if_true, Bool.false_eq_true, if_false, List.map_cons, this]; simp [hi]
theorem dropIdx_take (js : List Nat) (l : List Oper) (n : Nat) (hn : n ≤ l.length) : ((List.range n).filter fun k => !js.contains k).map (fun k => l.toArray[k]?) = (dropIdx js 0 (l.take n)).map some := by
  have h := dropIdx_map js (l.take n) n 0 (by simp; omega)
  rw [List.drop_zero] at h
  rw [← h, List.range_eq_range']
  refine List.map_congr_left fun k hk => ?_
  have := (List.mem_filter.1 hk).1
  simp at this
  simp [this]
theorem wp_region_many {id : Nat} {Q : Exit → Act → World → Prop} {a : Act} {w : World} {l : List Oper} (n : Nat) (J : List Lay)
    (hJ : ∀ e, e ∈ J → ∃ oj, l.toArray[e.at_]? = some oj ∧ oj.dst = some e.slot ∧ oj.after = #[] ∧ oj.guard = none ∧ ∀ (ρ : Operand → Value) (w : World), (execOp ρ oj).run P w = .ok (.value (.pointer (some ⟨w.heap.size, 0, none⟩))) (w.alloc (.cells e.cells.toArray e.type)))
    (hm : P.follows .mixedOrders = true) (hJs : (J.map Lay.slot).Nodup) (hJa : (J.map Lay.at_).Nodup)
    (hB : (Region.noSelect l.toArray && decide (n < l.toArray.size) && Region.sinkB .any l.toArray n && Region.chainB .any l.toArray n && manyB l.toArray n J &&
      orderB .any l.toArray n (l.toArray.size - n) ((List.range n).filter fun i => !(J.map Lay.at_).contains i) (setAll J (Array.replicate l.toArray.size false))) = true)
    (hcount : ((List.range n).filter fun i => !(J.map Lay.at_).contains i).length + J.length = n)
    (hC : ∀ w', Below w.heap.size w w' → C w')
    (h : rWalk P l.toArray C (fun a' => ∀ w' β, Laid w J (J.map Lay.slot) β w' → wpList P l.toArray Q (l.drop n) (putD β (J.map Lay.slot) a') w') (dropIdx (J.map Lay.at_) 0 (l.take n)) a) :
    (Code.region id l.toArray true).wp P Q a w := by
  simp only [Bool.and_eq_true, decide_eq_true_eq] at hB
  obtain ⟨⟨⟨⟨⟨hsel, hn⟩, hs⟩, hc⟩, hmB⟩, ho⟩ := hB
  have spec := manyB_spec hmB
  have hJa' : ∀ e, e ∈ J → ∀ e', e' ∈ J → e.at_ = e'.at_ → e = e' := fun e he e' he' heq => at_inj hJa he he' heq
  -- the laying operations may come up in any order from the start
  have inv1 : ∀ listed, HeadInv .any l.toArray n listed → TailWaits .any l.toArray n listed := fun listed inv i hi hun => tail_waits hs hc hn inv _ i rfl hi hun
  have invJ : ∀ K : List Lay, (∀ e, e ∈ K → e ∈ J) → (K.map Lay.at_).Nodup → HeadInv .any l.toArray n (setAll K (Array.replicate l.toArray.size false)) := by
    intro K
    induction K with
    | nil => intro _ _; exact headInv0
    | cons e K ih =>
      intro hK hnd
      have hnd' := List.nodup_cons.1 hnd
      have := ih (fun x hx => hK x (List.mem_cons_of_mem _ hx)) hnd'.2
      obtain ⟨oj, hoj, _, haft, _⟩ := hJ e (hK e List.mem_cons_self)
      have hlt := (spec e (hK e List.mem_cons_self)).1
      refine this.set (mem_ready.2 ⟨?_, oj, hoj, fun x hx => (by rw [haft] at hx; simp at hx)⟩) hlt
      rw [setAll_ne (fun x hx hh => hnd'.1 (List.mem_map.2 ⟨x, hx, hh⟩))]
      exact getD_in (by simp at hn ⊢; omega) (getD_replicate_false _ _)
  have H := rAny_order (md := .any) (g := l.toArray.size - n) hsel (HeadInv .any l.toArray n) (fun listed j inv hj hjn => inv.set hj hjn) inv1 _ _ _ a (dropIdx_take (J.map Lay.at_) l n (by simp at hn; omega)) (invJ J (fun _ h => h) hJa) ho h
  refine wp_region_any hm ?_
  have := rAny_with_many (md := .any) (Q := Q) (l := l.drop n) (w0 := w) (g := l.toArray.size - n) hsel (by simp) (fun j => by simp [List.getElem?_drop]) hJ hJs hJa' hmB hs hc hn hC
    (fun a' w' β hL hl => hl w' β hL) _ _ J [] (fun _ => 0) (Array.replicate l.toArray.size false) a { w with drawn := w.drawn + 1 } rfl (fun _ h => h) (by simp)
    (fun e he => getD_in (by simp; have := (spec e he).1; simp at hn; omega) (getD_replicate_false _ _)) (fun e _ hd => (by cases hd)) hJs headInv0
    ⟨⟨rfl, rfl, rfl, Nat.le_refl _, fun _ _ => rfl⟩, (fun e _ hd => (by cases hd)), (fun x hx => (by cases hx))⟩ H
  rw [hcount, show n + (l.toArray.size - n) = l.toArray.size by omega] at this
  exact this
end
end Go.Proofs.Ytnocdecimcpkfaa

namespace Go.Proofs.Ytnocdecimcpkfaa
open Go.RowKit Go.Sort

section
variable {P : Program} {ops : Array Oper} {md : Region.Mode} {C : World → Prop}

/-- Every edge of the head leads back. -/
def backB (md : Region.Mode) (ops : Array Oper) (n : Nat) : Bool :=
  (List.range n).all fun i => match ops[i]? with
    | some o => o.after.all fun e => !Region.binds md e || decide (e.on < i)
    | none => false
theorem backB_spec {n i : Nat} (h : backB md ops n = true) (hi : i < n) : ∃ o, ops[i]? = some o ∧ ∀ e ∈ o.after, Region.binds md e = true → e.on < i := by
  have h1 := List.all_eq_true.1 h i (List.mem_range.2 hi)
  cases ho : ops[i]? with
  | none => rw [ho] at h1; cases h1
  | some o =>
    rw [ho] at h1
    refine ⟨o, rfl, fun e he hb => ?_⟩
    have h2 := Array.all_eq_true_iff_forall_mem.1 h1 e he
    simpa [hb] using h2
/-- While an operation of the head is open, one is ready. -/
theorem some_ready {n : Nat} {listed : Array Bool} (h : backB md ops n = true) (hsz : listed.size = ops.size) (hn : n ≤ ops.size) :
    ∀ (i : Nat), i < n → listed.getD i true = false → ∃ k, k ≤ i ∧ k ∈ Region.ready md ops listed := by
  intro i
  induction i using Nat.strongRecOn with
  | _ i ih =>
    intro hi hun
    obtain ⟨o, ho, hall⟩ := backB_spec h hi
    by_cases hr : ∀ e ∈ o.after, Region.binds md e = true → listed.getD e.on false = true
    · exact ⟨i, Nat.le_refl _, mem_ready.2 ⟨hun, o, ho, hr⟩⟩
    · have : ∃ e ∈ o.after, Region.binds md e = true ∧ listed.getD e.on false = false := by
        apply Classical.byContradiction
        intro hno
        refine hr fun e he hb => ?_
        cases hv : listed.getD e.on false with
        | true => rfl
        | false => exact absurd ⟨e, he, hb, hv⟩ hno
      obtain ⟨e, he, hb, hv⟩ := this
      have hlt := hall e he hb
      obtain ⟨k, hk, hkr⟩ := ih e.on hlt (by omega) (getD_in (by omega) hv)
      exact ⟨k, by omega, hkr⟩

/-- A temporary that no open operation writes holds what it holds at the end. -/
theorem rAny_eval {n t : Nat} {u : Value} {L : Array Bool → Act → Prop} (hL : ∀ l a, L l a → a.eval (.tmp t) = u) :
    ∀ (f : Nat) (listed : Array Bool) (a : Act), (∀ i o, i < n → ops[i]? = some o → listed.getD i true = false → o.dst ≠ some t) → rAny P md ops C n L f listed a → a.eval (.tmp t) = u
  | 0, listed, a, _, h => hL _ _ h
  | f + 1, listed, a, hw, h => by
    obtain ⟨hne, hall⟩ := h
    obtain ⟨i, hi⟩ := List.exists_mem_of_ne_nil _ hne
    obtain ⟨hin, o, v, ho, _, hK⟩ := hall i hi
    have h1 := rAny_eval hL f _ _ (fun k ok hk hok hun => by
      by_cases hik : i = k
      · subst hik
        have : ok = o := Option.some.inj (hok.symm.trans ho)
        subst this
        exact hw i ok hin ho (mem_ready.1 hi).1
      · rw [getD_set_ne true hik] at hun; exact hw k ok hk hok hun) hK
    rw [Act.eval_put (fun d hd hx => by cases hx; exact hw i o hin ho (mem_ready.1 hi).1 hd)] at h1
    exact h1

/-- Who writes temporary t ahead of the store s is waited for by it. -/
def writersB (md : Region.Mode) (ops : Array Oper) (n s t : Nat) : Bool :=
  (List.range n).all fun i => match ops[i]? with
    | some o => o.dst != some t || Region.waitsFor md ops s i
    | none => true

structure Late (P : Program) (md : Region.Mode) (ops : Array Oper) (n j s : Nat) (d t : Tmp) (T : TypeId) (cs us : Array Value) (u : Value) (oj os : Oper) (eff : Nat → World → World) : Prop where
  hsel : Region.noSelect ops = true
  hn : n < ops.size
  hjn : j < n
  hsn : s < n
  hjs : j ≠ s
  hsink : Region.sinkB md ops n = true
  hchain : Region.chainB md ops n = true
  hback : backB md ops n = true
  hoj : ops[j]? = some oj
  hos : ops[s]? = some os
  hd : oj.dst = some d
  hafter : oj.after = #[]
  hguard : oj.guard = none
  hsd : os.dst = none
  hsg : os.guard = none
  hsj : Region.waitsFor md ops s j = true
  hdt : d ≠ t
  hwr : writersB md ops n s t = true
  hrun : ∀ (ρ : Operand → Value) (w : World), (execOp ρ oj).run P w = .ok (.value (.pointer (some ⟨w.heap.size, 0, none⟩))) (w.alloc (.cells cs T))
  hst : ∀ (ρ : Operand → Value) (w : World) (b : Nat), ρ (.tmp d) = .pointer (some ⟨b, 0, none⟩) → ρ (.tmp t) = u → w.heap[b]? = some (.cells cs T) → (execOp ρ os).run P w = .ok .skip (eff b w)
  heff : ∀ (w : World) (b : Nat), w.heap[b]? = some (.cells cs T) → (eff b w).heap[b]? = some (.cells us T) ∧ (∀ B, B ≤ b → Below B w (eff b w))

/-- The quiet operations of the head are apart from the block's temporary. -/
def quietApartB (ops : Array Oper) (n j s : Nat) (d : Tmp) : Bool :=
  (List.range n).all fun i => i == j || i == s || match ops[i]? with
    | some o => !(o.looksAt ops).contains d && o.dst != some d
    | none => true
theorem quietApartB_spec {n j s d : Nat} (h : quietApartB ops n j s d = true) : ∀ i o, i < n → ¬ (i = j ∨ i = s) → ops[i]? = some o → (∀ d', some d = some d' → d' ∉ o.looksAt ops) ∧ (∀ d', some d = some d' → o.dst ≠ some d') := by
  intro i o hi hj ho
  have h1 := List.all_eq_true.1 h i (List.mem_range.2 hi)
  have hj1 : i ≠ j := fun e => hj (.inl e)
  have hj2 : i ≠ s := fun e => hj (.inr e)
  simp only [ho, Bool.or_eq_true, beq_iff_eq, hj1, hj2, false_or, Bool.and_eq_true, Bool.not_eq_true', bne_iff_ne] at h1
  refine ⟨fun d' hd => ?_, fun d' hd => ?_⟩
  · cases hd; simpa using h1.1
  · cases hd; exact h1.2

variable {n j s g : Nat} {d t : Tmp} {T : TypeId} {cs us : Array Value} {u : Value} {oj os : Oper} {eff : Nat → World → World} {Q : Exit → Act → World → Prop} {Lq : Act → Prop} {l : List Oper} {w0 : World}

theorem late_tail (K : Late P md ops n j s d t T cs us u oj os eff) (hqa : quietApartB ops n j s d = true) (hg : l.length = g) (hl : ∀ k, l[k]? = ops[n + k]?) (hC : ∀ w', Below w0.heap.size w0 w' → C w')
    (hQ : ∀ a w b, Below w0.heap.size w0 w → w0.heap.size ≤ b → b < w.heap.size → w.heap[b]? = some (.cells us T) → Lq a → wpList P ops Q l (a.put (some d) (.pointer (some ⟨b, 0, none⟩))) w)
    (f : Nat) (listed : Array Bool) (a : Act) (w : World) (b : Nat) (hw : Below w0.heap.size w0 w) (hb : w0.heap.size ≤ b) (hbl : b < w.heap.size) (hbx : w.heap[b]? = some (.cells us T))
    (hlj : listed.getD j true = true) (hls : listed.getD s true = true)
    (h : rAny P md ops C n (fun listed' a' => Region.seqB md ops g n listed' = true ∧ Lq a') f listed a) : wpAny P md ops Q (f + g) listed (a.put (some d) (.pointer (some ⟨b, 0, none⟩))) w :=
  rAny_then_tail (md := md) (D := fun w' => Below w0.heap.size w0 w' ∧ b < w'.heap.size ∧ w'.heap[b]? = some (.cells us T)) K.hsel hg hl (fun w' h => hC w' h.1)
    (fun x y hx hy => ⟨Below.trans hx.1 (Below.mono hy hx.1.size), Nat.lt_of_lt_of_le hx.2.1 hy.size, (hy.block _ hx.2.1).trans hx.2.2⟩) (fun k => k = j ∨ k = s) (quietApartB_spec hqa)
    (fun a' w' hw' hl' => hQ a' w' b hw'.1 hb hw'.2.1 hw'.2.2 hl') f listed a w ⟨hw, hbl, hbx⟩ (fun k hk => by rcases hk with rfl | rfl; exact hlj; exact hls) h

theorem eval_put_same (a : Act) (d : Tmp) (v : Value) (h : d < a.tmps.size) : (a.put (some d) v).eval (.tmp d) = v := by
  simp [Act.eval, Act.put, h]
theorem put_size (a : Act) (x : Option Tmp) (v : Value) : (a.put x v).tmps.size = a.tmps.size := by cases x <;> simp [Act.put]
theorem wanted_none {o : Oper} (h : o.guard = none) (f : Nat → Option Bool) : Region.wanted o f = true := by simp [Region.wanted, h]

/-- Behind the block's laying, the store still open. -/
theorem late_one (K : Late P md ops n j s d t T cs us u oj os eff) (hqa : quietApartB ops n j s d = true) (hg : l.length = g) (hl : ∀ k, l[k]? = ops[n + k]?) (hC : ∀ w', Below w0.heap.size w0 w' → C w')
    (hLu : ∀ a, Lq a → a.eval (.tmp t) = u)
    (hQ : ∀ a w b, Below w0.heap.size w0 w → w0.heap.size ≤ b → b < w.heap.size → w.heap[b]? = some (.cells us T) → Lq a → wpList P ops Q l (a.put (some d) (.pointer (some ⟨b, 0, none⟩))) w) :
    ∀ (f : Nat) (listed : Array Bool) (a : Act) (w : World) (b : Nat), d < a.tmps.size → Below w0.heap.size w0 w → w0.heap.size ≤ b → b < w.heap.size → w.heap[b]? = some (.cells cs T) →
      listed.getD j true = true → listed.getD s true = false → HeadInv md ops n listed →
      rAny P md ops C n (fun listed' a' => Region.seqB md ops g n listed' = true ∧ Lq a') f (listed.setIfInBounds s true) a → wpAny P md ops Q (f + g + 1) listed (a.put (some d) (.pointer (some ⟨b, 0, none⟩))) w := by
  have hssz : s < ops.size := Nat.lt_trans K.hsn K.hn
  -- the store, whenever it comes
  have store : ∀ (f : Nat) (listed : Array Bool) (a : Act) (w : World) (b : Nat), d < a.tmps.size → Below w0.heap.size w0 w → w0.heap.size ≤ b → b < w.heap.size → w.heap[b]? = some (.cells cs T) →
      listed.getD j true = true → listed.getD s true = false → HeadInv md ops n listed → s ∈ Region.ready md ops listed →
      rAny P md ops C n (fun listed' a' => Region.seqB md ops g n listed' = true ∧ Lq a') f (listed.setIfInBounds s true) a →
      wpOp P ops Q s (wpAny P md ops Q (f + g) (listed.setIfInBounds s true)) (a.put (some d) (.pointer (some ⟨b, 0, none⟩))) w := by
    intro f listed a w b hd hw hb hbl hbx hlj hls inv hsr h
    have hev : a.eval (.tmp t) = u := by
      refine rAny_eval (fun l' a' hL => hLu a' hL.2) f _ a (fun i o hin ho hun hdst => ?_) h
      have h1 := List.all_eq_true.1 K.hwr i (List.mem_range.2 hin)
      simp only [ho, hdst, bne_self_eq_false, Bool.false_or] at h1
      obtain ⟨o', ho', e, he, hbi, hon⟩ := Region.waitsFor_spec h1
      obtain ⟨_, o'', ho'', hall⟩ := mem_ready.1 hsr
      have : o' = o'' := Option.some.inj (ho'.symm.trans ho'')
      subst this
      have h2 := hall e he hbi
      rw [hon] at h2
      by_cases his : s = i
      · subst his
        have : o = os := Option.some.inj (ho.symm.trans K.hos)
        subst this
        rw [K.hsd] at hdst; cases hdst
      · rw [getD_set_ne true his] at hun
        rw [getD_both hun] at h2; cases h2
    unfold wpOp
    simp only [K.hos]
    rw [if_pos (wanted_none K.hsg _)]
    refine .inl ?_
    unfold Oper.wp
    have e2 : (a.put (some d) (.pointer (some ⟨b, 0, none⟩))).eval (.tmp t) = u := by
      rw [Act.eval_put (fun d' hd' hx => by cases hd'; cases hx; exact K.hdt rfl)]; exact hev
    rw [K.hst _ w b (eval_put_same a d _ hd) e2 hbx, Oper.upon_skip, K.hsd]
    obtain ⟨hu1, hu2⟩ := K.heff w b hbx
    have hbe := hu2 w0.heap.size hb
    exact late_tail K hqa hg hl hC hQ f _ a _ b (hw.trans hbe) hb (Nat.lt_of_lt_of_le hbl hbe.size) hu1 (by
      by_cases hsj : s = j
      · exact absurd hsj.symm K.hjs
      · rw [getD_set_ne true hsj]; exact hlj) (by simp [inv.size, hssz]) h
  have head : ∀ (listed : Array Bool), HeadInv md ops n listed → listed.getD s true = false → ∀ i, i ∈ Region.ready md ops listed → i < n := fun listed inv hls i hi => by
    rcases Nat.lt_or_ge i n with h | h
    · exact h
    · exact absurd hi (tail_waits K.hsink K.hchain K.hn inv _ s rfl K.hsn hls i h)
  intro f
  induction f with
  | zero =>
    intro listed a w b hd hw hb hbl hbx hlj hls inv h
    obtain ⟨k, hk, hkr⟩ := some_ready K.hback inv.size (Nat.le_of_lt K.hn) s K.hsn hls
    refine ⟨fun h0 => (by rw [h0] at hkr; cases hkr), fun i hi => ?_⟩
    by_cases his : i = s
    · subst his; exact store 0 listed a w b hd hw hb hbl hbx hlj hls inv hi h
    · have h1 := seqB_ready h.1 i (ready_mono hi his)
      have := head listed inv hls i hi
      omega
  | succ f ih =>
    intro listed a w b hd hw hb hbl hbx hlj hls inv h
    obtain ⟨k, hk, hkr⟩ := some_ready K.hback inv.size (Nat.le_of_lt K.hn) s K.hsn hls
    refine ⟨fun h0 => (by rw [h0] at hkr; cases hkr), fun i hi => ?_⟩
    by_cases his : i = s
    · subst his; exact store (f + 1) listed a w b hd hw hb hbl hbx hlj hls inv hi h
    · obtain ⟨hin, o, v, ho, hy, hK⟩ := h.2 i (ready_mono hi his)
      have hij : i ≠ j := fun e => by subst e; rw [(mem_ready.1 hi).1] at hlj; cases hlj
      obtain ⟨p1, p2⟩ := quietApartB_spec hqa i o hin (by rintro (e | e); exact hij e; exact his e) ho
      have hy' : rYields P ops C o v (a.put (some d) (.pointer (some ⟨b, 0, none⟩))) := hy.same (execOp_put o (fun c x => Region.noSelect_spec K.hsel i o c x ho) a _ _ p1) (wanted_put o a _ _ p1)
      refine wpOp_of_yields ho (hC w hw) hy' fun w' hw' => ?_
      rw [Act.put_comm a _ v p2, show f + 1 + g = f + g + 1 by omega]
      refine ih _ _ w' b (by rw [put_size]; exact hd) (Ext.trans hw hw') hb (Nat.lt_of_lt_of_le hbl hw'.size) ((hw'.block _ hbl).trans hbx) (by rw [getD_set_ne true hij]; exact hlj) (by rw [getD_set_ne true his]; exact hls) (inv.set hi hin) ?_
      rw [Array.setIfInBounds_comm _ _ his]
      exact hK

theorem late_zero (K : Late P md ops n j s d t T cs us u oj os eff) (hqa : quietApartB ops n j s d = true) (hg : l.length = g) (hl : ∀ k, l[k]? = ops[n + k]?) (hC : ∀ w', Below w0.heap.size w0 w' → C w')
    (hLu : ∀ a, Lq a → a.eval (.tmp t) = u)
    (hQ : ∀ a w b, Below w0.heap.size w0 w → w0.heap.size ≤ b → b < w.heap.size → w.heap[b]? = some (.cells us T) → Lq a → wpList P ops Q l (a.put (some d) (.pointer (some ⟨b, 0, none⟩))) w) :
    ∀ (f : Nat) (listed : Array Bool) (a : Act) (w : World), d < a.tmps.size → Below w0.heap.size w0 w → listed.getD j true = false → listed.getD s true = false → HeadInv md ops n listed →
      rAny P md ops C n (fun listed' a' => Region.seqB md ops g n listed' = true ∧ Lq a') f ((listed.setIfInBounds j true).setIfInBounds s true) a → wpAny P md ops Q (f + g + 1 + 1) listed a w := by
  have hjsz : j < ops.size := Nat.lt_trans K.hjn K.hn
  have lay : ∀ (f : Nat) (listed : Array Bool) (a : Act) (w : World), d < a.tmps.size → Below w0.heap.size w0 w → listed.getD j true = false → listed.getD s true = false → HeadInv md ops n listed → j ∈ Region.ready md ops listed →
      rAny P md ops C n (fun listed' a' => Region.seqB md ops g n listed' = true ∧ Lq a') f ((listed.setIfInBounds j true).setIfInBounds s true) a →
      wpOp P ops Q j (wpAny P md ops Q (f + g + 1) (listed.setIfInBounds j true)) a w := by
    intro f listed a w hd hw hlj hls inv hjr h
    unfold wpOp
    simp only [K.hoj]
    rw [if_pos (wanted_none K.hguard _)]
    refine .inl ?_
    unfold Oper.wp
    rw [K.hrun, Oper.upon_value, K.hd]
    exact late_one K hqa hg hl hC hLu hQ f _ a _ w.heap.size hd (hw.alloc hw.size _) hw.size (by simp) (heap_new _ _) (by simp [inv.size, hjsz]) (by rw [getD_set_ne true K.hjs]; exact hls) (inv.set hjr K.hjn) h
  have notS : ∀ (listed : Array Bool), listed.getD j true = false → s ∉ Region.ready md ops listed := fun listed hlj hsr => by
    obtain ⟨o', ho', e, he, hbi, hon⟩ := Region.waitsFor_spec K.hsj
    obtain ⟨_, o'', ho'', hall⟩ := mem_ready.1 hsr
    have : o' = o'' := Option.some.inj (ho'.symm.trans ho'')
    subst this
    have h2 := hall e he hbi
    rw [hon, getD_both hlj] at h2; cases h2
  intro f
  induction f with
  | zero =>
    intro listed a w hd hw hlj hls inv h
    have hjr : j ∈ Region.ready md ops listed := mem_ready.2 ⟨hlj, oj, K.hoj, fun e he => (by rw [K.hafter] at he; simp at he)⟩
    refine ⟨fun h0 => (by rw [h0] at hjr; cases hjr), fun i hi => ?_⟩
    by_cases hij : i = j
    · subst hij; exact lay 0 listed a w hd hw hlj hls inv hi h
    · have his : i ≠ s := fun e => by subst e; exact notS listed hlj hi
      have h1 := seqB_ready h.1 i (ready_mono (ready_mono hi hij) his)
      exact absurd hi (tail_waits K.hsink K.hchain K.hn inv _ j rfl K.hjn hlj i h1)
  | succ f ih =>
    intro listed a w hd hw hlj hls inv h
    have hjr : j ∈ Region.ready md ops listed := mem_ready.2 ⟨hlj, oj, K.hoj, fun e he => (by rw [K.hafter] at he; simp at he)⟩
    refine ⟨fun h0 => (by rw [h0] at hjr; cases hjr), fun i hi => ?_⟩
    by_cases hij : i = j
    · subst hij; exact lay (f + 1) listed a w hd hw hlj hls inv hi h
    · have his : i ≠ s := fun e => by subst e; exact notS listed hlj hi
      obtain ⟨hin, o, v, ho, hy, hK⟩ := h.2 i (ready_mono (ready_mono hi hij) his)
      refine wpOp_of_yields ho (hC w hw) hy fun w' hw' => ?_
      rw [show f + 1 + g + 1 = f + g + 1 + 1 by omega]
      refine ih _ _ w' (by rw [put_size]; exact hd) (Ext.trans hw hw') (by rw [getD_set_ne true hij]; exact hlj) (by rw [getD_set_ne true his]; exact hls) (inv.set hi hin) ?_
      rw [Array.setIfInBounds_comm _ _ hij, Array.setIfInBounds_comm _ _ his]
      exact hK

/-- The tail's first operation waits for each of the head. -/
def phaseB (md : Region.Mode) (ops : Array Oper) (n : Nat) : Bool := (List.range n).all fun i => Region.waitsFor md ops n i
theorem phase_waits {listed : Array Bool} (hp : phaseB md ops n = true) (hc : Region.chainB md ops n = true) (ht : ∀ t, n ≤ t → t < ops.size → listed.getD t true = false) : TailWaits md ops n listed := by
  intro i hi hun t hnt hr
  obtain ⟨_, ot, hot, hall⟩ := mem_ready.1 hr
  have htlt : t < ops.size := (Array.getElem?_eq_some_iff.1 hot).1
  by_cases htn : t = n
  · subst htn
    obtain ⟨o', ho', e, he, hb, hon⟩ := Region.waitsFor_spec (List.all_eq_true.1 hp i (List.mem_range.2 hi))
    have : o' = ot := Option.some.inj (ho'.symm.trans hot)
    subst this
    have h2 := hall e he hb
    rw [hon, getD_both hun] at h2; cases h2
  · have h1 := List.all_eq_true.1 hc t (List.mem_range.2 htlt)
    simp only [Bool.or_eq_true, decide_eq_true_eq] at h1
    rcases h1 with h1 | h1
    · omega
    · obtain ⟨o', ho', e, he, hb, hon⟩ := Region.waitsFor_spec h1
      have : o' = ot := Option.some.inj (ho'.symm.trans hot)
      subst this
      have h2 := hall e he hb
      rw [hon, getD_both (ht (t - 1) (by omega) (by omega))] at h2; cases h2

/-- All the closed checks at once. -/
def lateB (md : Region.Mode) (ops : Array Oper) (n j s : Nat) (d t : Tmp) : Bool :=
  Region.noSelect ops && decide (n < ops.size) && decide (j < n) && decide (s < n) && decide (j ≠ s) && decide (d ≠ t) && Region.sinkB md ops n && Region.chainB md ops n && phaseB md ops n && backB md ops n && Region.waitsFor md ops s j && writersB md ops n s t && quietApartB ops n j s d &&
  orderB md ops n (ops.size - n) ((List.range n).filter fun i => i != j && i != s) (((Array.replicate ops.size false).setIfInBounds j true).setIfInBounds s true)
end

/-- Two cells stored, one behind the other. -/
def eff2 (c0 c1 : Value) (b : Nat) (w : World) : World := (w.setCell ⟨b, 0, none⟩ c0).setCell ⟨b, 1, none⟩ c1
theorem eff2_spec {c0 c1 z0 z1 : Value} {T : TypeId} (w : World) (b : Nat) (h : w.heap[b]? = some (.cells #[z0, z1] T)) : (eff2 c0 c1 b w).heap[b]? = some (.cells #[c0, c1] T) ∧ (∀ B, B ≤ b → Below B w (eff2 c0 c1 b w)) := by
  have B0 : Box w b [z0, z1] T := h
  exact ⟨(B0.set 0 c0).set 1 c1, fun B hB => ((Below.refl B w).setCell hB _).setCell hB _⟩

theorem count_two {n j s : Nat} (hj : j < n) (hs : s < n) (hjs : j ≠ s) : ((List.range n).filter fun i => i != j && i != s).length + 1 + 1 = n := by
  have h1 : ∀ (l : List Nat) (x : Nat), l.Nodup → x ∈ l → (l.filter fun i => i != x).length + 1 = l.length := by
    intro l
    induction l with
    | nil => intro x _ hx; cases hx
    | cons y l ih =>
      intro x hnd hx
      by_cases hxy : y = x
      · subst hxy
        have hno : y ∉ l := (List.nodup_cons.1 hnd).1
        have : l.filter (fun i => i != y) = l := List.filter_eq_self.2 fun z hz => by
          simp only [bne_iff_ne, ne_eq]; rintro rfl; exact hno hz
        simp [this]
      · have hx2 : x ∈ l := by
          rcases List.mem_cons.1 hx with h | h
          · exact absurd h.symm hxy
          · exact h
        have := ih x (List.nodup_cons.1 hnd).2 hx2
        rw [List.filter_cons_of_pos (by simpa using hxy)]
        simp only [List.length_cons]; omega
  have e : ((List.range n).filter fun i => i != j && i != s) = ((List.range n).filter fun i => i != j).filter fun i => i != s := by
    rw [List.filter_filter]
    congr 1; funext i; exact Bool.and_comm _ _
  rw [e]
  have a1 := h1 (List.range n) j List.nodup_range (List.mem_range.2 hj)
  have a2 := h1 ((List.range n).filter fun i => i != j) s (List.nodup_range.filter _) (List.mem_filter.2 ⟨List.mem_range.2 hs, by simpa using Ne.symm hjs⟩)
  rw [List.length_range] at a1
  omega

theorem wp_region_late {P : Program} {C : World → Prop} {id : Nat} {Q : Exit → Act → World → Prop} {a : Act} {w : World} {l hd : List Oper} (n j s : Nat) (d t : Tmp) {T : TypeId} {z0 z1 : Value} (c0 c1 u : Value) {oj os : Oper}
    (hoj : l.toArray[j]? = some oj) (hos : l.toArray[s]? = some os) (hjd : oj.dst = some d) (hafter : oj.after = #[]) (hguard : oj.guard = none) (hsd : os.dst = none) (hsg : os.guard = none)
    (hdsz : d < a.tmps.size)
    (hrun : ∀ (ρ : Operand → Value) (w : World), (execOp ρ oj).run P w = .ok (.value (.pointer (some ⟨w.heap.size, 0, none⟩))) (w.alloc (.cells #[z0, z1] T)))
    (hm : P.follows .mixedOrders = true) (hB : lateB .any l.toArray n j s d t = true)
    (hhd : ((List.range n).filter fun i => i != j && i != s).map (fun i => l.toArray[i]?) = hd.map some)
    (hC : ∀ w', Below w.heap.size w w' → C w')
    (h : rWalk P l.toArray C (fun a' => a'.eval (.tmp t) = u ∧ ∀ w' b, Below w.heap.size w w' → w.heap.size ≤ b → b < w'.heap.size → Box w' b [c0, c1] T → wpList P l.toArray Q (l.drop n) (a'.put (some d) (.pointer (some ⟨b, 0, none⟩))) w') hd a)
    (hst : ∀ (ρ : Operand → Value) (w : World) (b : Nat), ρ (.tmp d) = .pointer (some ⟨b, 0, none⟩) → ρ (.tmp t) = u → Box w b [z0, z1] T → (execOp ρ os).run P w = .ok .skip (eff2 c0 c1 b w)) :
    (Code.region id l.toArray true).wp P Q a w := by
  simp only [lateB, Bool.and_eq_true, decide_eq_true_eq] at hB
  obtain ⟨⟨⟨⟨⟨⟨⟨⟨⟨⟨⟨⟨⟨hsel, hn⟩, hjn⟩, hsn⟩, hjs⟩, hdt⟩, hs⟩, hc⟩, hph⟩, hbk⟩, hsj⟩, hwr⟩, hqa⟩, ho⟩ := hB
  have K : Late P .any l.toArray n j s d t T #[z0, z1] #[c0, c1] u oj os (eff2 c0 c1) :=
    ⟨hsel, hn, hjn, hsn, hjs, hs, hc, hbk, hoj, hos, hjd, hafter, hguard, hsd, hsg, hsj, hdt, hwr, hrun, hst, fun w b h => eff2_spec w b h⟩
  have hjz : (Array.replicate l.toArray.size false).getD j true = false := getD_in (by simp; simp at hn; omega) (getD_replicate_false _ _)
  have hsz : (Array.replicate l.toArray.size false).getD s true = false := getD_in (by simp; simp at hn; omega) (getD_replicate_false _ _)
  have tl : ∀ (m : Array Bool) (i : Nat), i < n → (m.size = l.toArray.size ∧ ∀ t', n ≤ t' → t' < l.toArray.size → m.getD t' true = false) → ((m.setIfInBounds i true).size = l.toArray.size ∧ ∀ t', n ≤ t' → t' < l.toArray.size → (m.setIfInBounds i true).getD t' true = false) :=
    fun m i hi ⟨h1, h2⟩ => ⟨by simpa using h1, fun t' ht ht' => by rw [getD_set_ne true (by omega)]; exact h2 t' ht ht'⟩
  have i0 : (Array.replicate l.toArray.size false).size = l.toArray.size ∧ ∀ t', n ≤ t' → t' < l.toArray.size → (Array.replicate l.toArray.size false).getD t' true = false :=
    ⟨by simp, fun t' _ ht' => getD_in (by simpa using ht') (getD_replicate_false _ _)⟩
  have H := rAny_order (md := .any) (g := l.toArray.size - n) hsel (fun m => m.size = l.toArray.size ∧ ∀ t', n ≤ t' → t' < l.toArray.size → m.getD t' true = false) (fun m i hi _ hin => tl m i hin hi) (fun m hm => phase_waits hph hc hm.2)
    ((List.range n).filter fun i => i != j && i != s) hd _ a hhd (tl _ s hsn (tl _ j hjn i0)) ho h
  refine wp_region_any hm ?_
  have R := late_zero (md := .any) (Q := Q) (l := l.drop n) (w0 := w) K hqa (g := l.toArray.size - n) (by simp) (fun j => by simp [List.getElem?_drop]) hC (fun a' hl => hl.1)
    (fun a' w' b h1 h2 h3 h4 hl => hl.2 w' b h1 h2 h3 h4) _ (Array.replicate l.toArray.size false) a { w with drawn := w.drawn + 1 } hdsz ⟨rfl, rfl, rfl, Nat.le_refl _, fun _ _ => rfl⟩ hjz hsz headInv0 H
  have hcount : ((List.range n).filter fun i => i != j && i != s).length + 1 + 1 = n := count_two hjn hsn hjs
  rw [show ((List.range n).filter fun i => i != j && i != s).length + (l.toArray.size - n) + 1 + 1 = l.toArray.size by omega] at R
  exact R
theorem range_two (m : Nat) : ((List.range (m + 2)).filter fun i => i != m && i != m + 1) = List.range m := by
  rw [List.range_succ, List.range_succ, List.filter_append, List.filter_append]
  have h1 : (List.range m).filter (fun i => i != m && i != m + 1) = List.range m := List.filter_eq_self.2 fun z hz => by
    have := List.mem_range.1 hz
    simp; omega
  rw [h1]
  simp
/-- The usual make: the block's laying and the store are the head's last two operations. -/
theorem wp_region_late2 {P : Program} {C : World → Prop} {id : Nat} {Q : Exit → Act → World → Prop} {a : Act} {w : World} {l : List Oper} (m : Nat) (d t : Tmp) {T : TypeId} {z0 z1 : Value} (c0 c1 : Value) {oj os : Oper}
    (hoj : l.toArray[m]? = some oj) (hos : l.toArray[m + 1]? = some os) (hjd : oj.dst = some d) (hafter : oj.after = #[]) (hguard : oj.guard = none) (hsd : os.dst = none) (hsg : os.guard = none)
    (hdsz : d < a.tmps.size)
    (hrun : ∀ (ρ : Operand → Value) (w : World), (execOp ρ oj).run P w = .ok (.value (.pointer (some ⟨w.heap.size, 0, none⟩))) (w.alloc (.cells #[z0, z1] T)))
    (hm : P.follows .mixedOrders = true) (hB : lateB .any l.toArray (m + 2) m (m + 1) d t = true)
    (hC : ∀ w', Below w.heap.size w w' → C w')
    (h : rWalk P l.toArray C (fun a' => a'.eval (.tmp t) = .agg #[c0, c1] ∧ ∀ w' b, Below w.heap.size w w' → w.heap.size ≤ b → b < w'.heap.size → Box w' b [c0, c1] T → wpList P l.toArray Q (l.drop (m + 2)) (a'.put (some d) (.pointer (some ⟨b, 0, none⟩))) w') (l.take m) a)
    (hst : ∀ (ρ : Operand → Value) (w : World) (b : Nat), ρ (.tmp d) = .pointer (some ⟨b, 0, none⟩) → ρ (.tmp t) = .agg #[c0, c1] → Box w b [z0, z1] T → (execOp ρ os).run P w = .ok .skip (eff2 c0 c1 b w)) :
    (Code.region id l.toArray true).wp P Q a w := by
  refine wp_region_late (hd := l.take m) (m + 2) m (m + 1) d t c0 c1 _ hoj hos hjd hafter hguard hsd hsg hdsz hrun hm hB ?_ hC h hst
  have hn : m + 2 < l.length := by
    simp only [lateB, Bool.and_eq_true, decide_eq_true_eq] at hB
    have := hB.1.1.1.1.1.1.1.1.1.1.1.1.2
    simpa using this
  rw [range_two]
  apply List.ext_getElem?
  intro j
  simp only [List.getElem?_map, List.getElem?_take]
  by_cases hj : j < m
  · simp [hj, show j < l.length by omega]
  · simp [hj]
end Go.Proofs.Ytnocdecimcpkfaa
