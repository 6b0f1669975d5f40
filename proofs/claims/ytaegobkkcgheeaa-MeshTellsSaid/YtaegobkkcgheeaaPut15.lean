/- Put together: MesD, MesE. -/
import Derived.Test.YtaegobkkcgheeaaRows
import Derived.Test.YtaegobkkcgheeaaPut14
import Derived.Test.YtaegobkkcgheeaaPut13
import Derived.Test.YtaegobkkcgheeaaPut1
import Derived.WalkKit
import Derived.WalkSpells
import Derived.WalkLawsBesides
import Derived.Laws.Externs
import Derived.Deep.QuietTactic
import Derived.BigQuiet
import Derived.Lib.Hide
import Derived.Handy
import Derived.Laws.Cover3
import Derived.LoopN
import Derived.RegionTactic
namespace Go.Proofs.Ytaegobkkcgheeaa
open Go.RowKit Go.Sort

theorem grown_of_below {w w' : World} (h : Below w.heap.size w w') (row : Option Nat) : w.grownBy w' row := ⟨h.os, h.tape, h.output, h.size, fun i hi _ => h.block i hi⟩
theorem below_of_grown {w w' : World} (h : w.grownBy w' none) : Below w.heap.size w w' := ⟨h.os, h.tape, h.output, h.size, fun i hi => h.block i hi (by simp)⟩
theorem below_grown {B : Nat} {w w' w2 : World} {b : Nat} (h : Below B w w') (hg : w'.grownBy w2 (some b)) (hB : B ≤ w'.heap.size) (hb : B ≤ b) : Below B w w2 :=
  ⟨hg.os.trans h.os, hg.tape.trans h.tape, hg.output.trans h.output, Nat.le_trans h.size hg.size, fun i hi => (hg.block i (by omega) (fun e => by cases e; omega)).trans (h.block i hi)⟩
theorem grown_trans {a b c : World} {r : Nat} (h : a.grownBy b (some r)) (k : b.grownBy c (some r)) : a.grownBy c (some r) := h.andThen k (fun _ hj => .inr hj)
theorem grown_below {a b c : World} {r : Nat} (h : a.grownBy b (some r)) (k : Below b.heap.size b c) : a.grownBy c (some r) := grown_trans h (grown_of_below k _)
theorem below_then {a b c : World} {r : Nat} (h : Below a.heap.size a b) (k : b.grownBy c (some r)) : a.grownBy c (some r) := grown_trans (grown_of_below h _) k
theorem grown_refl (w : World) (row : Option Nat) : w.grownBy w row := ⟨rfl, rfl, rfl, Nat.le_refl _, fun _ _ _ => rfl⟩
theorem Box.ne_map {w : World} {x b : Nat} {cs : List Value} {T : TypeId} {E : List ((Pt × Pt) × Tri3)} (h : Box w x cs T) (H : HoldsMap eW eT okW w b E) : x ≠ b := by
  obtain ⟨es, clock, hb, _⟩ := H
  intro e
  unfold Box at h
  rw [e, hb] at h
  cases h
theorem Box.turn {w w' : World} {x b : Nat} {cs : List Value} {T : TypeId} {E : List ((Pt × Pt) × Tri3)} (h : Box w x cs T) (H : HoldsMap eW eT okW w b E) (hg : w.grownBy w' (some b)) : Box w' x cs T := by
  have hne := h.ne_map H
  have hl := h.lt
  unfold Box at *
  rw [hg.block x hl (by simpa using hne)]; exact h
theorem RowAt.turn {α : Type} {c : α → List Value} {k : Nat} {w w' : World} {a : Option Addr} {L : List α} {b : Nat} {E : List ((Pt × Pt) × Tri3)} (h : RowAt c k w a L) (hc : ∀ x, c x ≠ []) (H : HoldsMap eW eT okW w b E) (hg : w.grownBy w' (some b)) : RowAt c k w' a L := fun j x hx => by
  obtain ⟨ad, h1, h2, h3⟩ := h j x hx
  have hne : ad.block ≠ b := by
    obtain ⟨es, clock, hb, _⟩ := H
    cases hcx : c x with
    | nil => exact absurd hcx (hc x)
    | cons v l =>
      have h4 := h3 0 v (by rw [hcx]; rfl)
      intro e
      unfold World.cell? at h4
      rw [addr_block, addr_block, e, hb] at h4
      cases h4
  refine ⟨ad, h1, Nat.lt_of_lt_of_le h2 hg.size, fun i u hu => ?_⟩
  exact hg.cell (h3 i u hu) (by rw [addr_block, addr_block]; simpa using hne)
theorem cT_ne (x : Tri3) : cT x ≠ [] := by simp [cT]
theorem cP_ne (x : Pt) : cP x ≠ [] := by simp [cP]

abbrev Es := List ((Pt × Pt) × Tri3)
def putT (E : Es) (T : Tri3) : Es := putE (putE (putE E (T.A, T.B) T) (T.B, T.C) T) (T.C, T.A) T
def takeT (E : Es) (T : Tri3) : Es := delE (delE (delE E (T.A, T.B)) (T.B, T.C)) (T.C, T.A)
/-- Put one after the other, up to the first one that may not be: how many, and what is there then. -/
def putRun (E : Es) : List Tri3 → Nat × Es
  | [] => (0, E)
  | T :: l => if fitsE E T = true then ((putRun (putT E T) l).1 + 1, (putRun (putT E T) l).2) else (0, E)
def takeRun (E : Es) : List Tri3 → Nat × Es
  | [] => (0, E)
  | T :: l => if hasE E T = true then ((takeRun (takeT E T) l).1 + 1, (takeRun (takeT E T) l).2) else (0, E)
theorem putRun_step {E F : Es} {L : List Tri3} {k : Nat} (hk : k < L.length) (h : putRun E L = (k + (putRun F (L.drop k)).1, (putRun F (L.drop k)).2)) (hf : fitsE F L[k] = true) :
    putRun E L = (k + 1 + (putRun (putT F L[k]) (L.drop (k + 1))).1, (putRun (putT F L[k]) (L.drop (k + 1))).2) := by
  rw [h, List.drop_eq_getElem_cons hk, putRun, if_pos hf]
  simp only [Prod.mk.injEq, and_true]
  omega
theorem putRun_stop {E F : Es} {L : List Tri3} {k : Nat} (hk : k < L.length) (h : putRun E L = (k + (putRun F (L.drop k)).1, (putRun F (L.drop k)).2)) (hf : fitsE F L[k] = false) : putRun E L = (k, F) := by
  rw [h, List.drop_eq_getElem_cons hk, putRun, if_neg (by rw [hf]; decide)]; rfl
theorem putRun_end {E F : Es} {L : List Tri3} {k : Nat} (hk : L.length ≤ k) (h : putRun E L = (k + (putRun F (L.drop k)).1, (putRun F (L.drop k)).2)) : putRun E L = (k, F) := by
  rw [h, List.drop_eq_nil_of_le hk]; rfl
theorem takeRun_step {E F : Es} {L : List Tri3} {k : Nat} (hk : k < L.length) (h : takeRun E L = (k + (takeRun F (L.drop k)).1, (takeRun F (L.drop k)).2)) (hf : hasE F L[k] = true) :
    takeRun E L = (k + 1 + (takeRun (takeT F L[k]) (L.drop (k + 1))).1, (takeRun (takeT F L[k]) (L.drop (k + 1))).2) := by
  rw [h, List.drop_eq_getElem_cons hk, takeRun, if_pos hf]
  simp only [Prod.mk.injEq, and_true]
  omega
theorem takeRun_stop {E F : Es} {L : List Tri3} {k : Nat} (hk : k < L.length) (h : takeRun E L = (k + (takeRun F (L.drop k)).1, (takeRun F (L.drop k)).2)) (hf : hasE F L[k] = false) : takeRun E L = (k, F) := by
  rw [h, List.drop_eq_getElem_cons hk, takeRun, if_neg (by rw [hf]; decide)]; rfl
theorem takeRun_end {E F : Es} {L : List Tri3} {k : Nat} (hk : L.length ≤ k) (h : takeRun E L = (k + (takeRun F (L.drop k)).1, (takeRun F (L.drop k)).2)) : takeRun E L = (k, F) := by
  rw [h, List.drop_eq_nil_of_le hk]; rfl
end Go.Proofs.Ytaegobkkcgheeaa

namespace Go.Proofs.Ytaegobkkcgheeaa
open Go.RowKit Go.Sort
attribute [local go_sem] rOper rAt rUpon cell_set sg_i64 sg_u64 alloc_cell alloc_frozen
attribute [local go_sem 10000] pt_eql pt_neq tri_eql
attribute [local irreducible] rWalk

theorem map_nil (b : Nat) (w : World) : (binOp .eql 63 (.map (some b)) (.map none)).run Try.prog w = .ok (.bool false) w := by
  simp only [binOp]
  simp [run_equal_map_nil w 63 _ _ (some b) Try.underlying63]
theorem rmap_nil (b : Nat) (w : World) : (binOp .eql 67 (.map (some b)) (.map none)).run Try.prog w = .ok (.bool false) w := by
  simp only [binOp]
  simp [run_equal_map_nil w 67 _ _ (some b) Try.underlying67]
attribute [local go_sem] map_nil rmap_nil
set_option maxRecDepth 100000 in
set_option maxHeartbeats 2000000 in
theorem mput_any (mb b : Nat) (E : Es) (a : Option Addr) (cap n : Nat) (L : List Tri3) (hn : Hid (L.length = n)) (hn1 : n ≤ 1000000) (hok : ∀ T ∈ L, okT T) (w : World) (Bm : Box w mb [.map (some b)] 65) (Hm : HoldsMap eW eT okW w b E) (Hr : RowAt cT 6 w a L) :
    Calls Try.prog 40 #[.pointer (some ⟨mb, 0, none⟩), .slice a n cap] w fun e w' => e = .returned (.int .i64 (putRun E L).1) ∧ w.grownBy w' (some b) ∧ HoldsMap eW eT okW w' b (putRun E L).2 := by
  have hmb := Bm.ne_map Hm
  obtain ⟨xm, ym, zm, vm⟩ := Bm.facts
  go_enter Try.func40, Try.ntmps40
  go_wp2
  clear xm ym zm vm
  go_loopw [19] (fun i wr => ∃ (k : Nat) (F : Es), k ≤ n ∧ i = .int .i64 k ∧ Hid (putRun E L = (k + (putRun F (L.drop k)).1, (putRun F (L.drop k)).2)) ∧ HoldsMap eW eT okW wr b F ∧ w.grownBy wr (some b)) (fun i _ => n - (intOf i).toNat)
  case atStart => exact ⟨0, E, Nat.zero_le _, rfl, Lib.hid (by simp), Hm, grown_refl _ _⟩
  case round =>
    obtain ⟨k, F, hk, rfl, hR, HF, hg⟩ := hrel
    have BM := Bm.turn Hm hg
    by_cases hlt : k < n
    · have hlk : k < L.length := hn.out ▸ hlt
      have hokk := hok L[k] (List.getElem_mem hlk)
      have hst := fun hf => putRun_step hlk hR.out hf
      have hsp := fun hf => putRun_stop hlk hR.out hf
      obtain ⟨ad, A, ea, eA, zA, _, q0, q1, q2, q3, q4, q5⟩ := (Hr.turn cT_ne Hm hg).tri hlk
      generalize L[k] = T at *
      cases hf : fitsE F T with
      | false =>
        have HP := Lib.hid (hsp hf)
        clear hst hsp
        have cf := fitsE_any mb b F T hokk
        rw [hf] at cf
        clear hf
        obtain ⟨xM, yM, zM, vM⟩ := BM.facts
        go_wp2_with fail
        refine at_call fun W1 hW => ?_
        have Bt : Box W1 wr.heap.size [.int .i64 T.A.x, .int .i64 T.A.y, .int .i64 T.B.x, .int .i64 T.B.y, .int .i64 T.C.x, .int .i64 T.C.y] 25 := by rw [hW]; exact Box.new rfl
        have hw : Below wr.heap.size wr W1 := by rw [hW]; go_grown
        clear hW
        clear xM yM zM vM
        replace BM := BM.ext hw rfl
        clear q0 q1 q2 q3 q4 q5 ea eA zA
        refine (cf _ BM (HF.ext hw rfl)).mono ?_
        rintro e w2 ⟨rfl, hb⟩
        replace BM := BM.ext hb rfl
        replace Bt := Bt.ext hb rfl
        replace hw := hw.trans (hb.mono hw.size)
        clear hb
        obtain ⟨xM, yM, zM, vM⟩ := BM.facts
        obtain ⟨xt, yt, zt, vt⟩ := Bt.facts
        go_wp2
        go_ret
        exact ⟨ret_int (by rw [HP.out]), grown_below hg hw, by rw [HP.out]; exact HF.ext hw rfl⟩
      | true =>
        have HP := Lib.hid (hst hf)
        clear hst hsp
        have cf := fitsE_any mb b F T hokk
        rw [hf] at cf
        clear hf
        obtain ⟨xM, yM, zM, vM⟩ := BM.facts
        go_wp2_with fail
        refine at_call fun W1 hW => ?_
        have Bt : Box W1 wr.heap.size [.int .i64 T.A.x, .int .i64 T.A.y, .int .i64 T.B.x, .int .i64 T.B.y, .int .i64 T.C.x, .int .i64 T.C.y] 25 := by rw [hW]; exact Box.new rfl
        have hw : Below wr.heap.size wr W1 := by rw [hW]; go_grown
        clear hW
        clear xM yM zM vM
        replace BM := BM.ext hw rfl
        clear q0 q1 q2 q3 q4 q5 ea eA zA
        refine (cf _ BM (HF.ext hw rfl)).mono ?_
        rintro e w2 ⟨rfl, hb⟩
        replace BM := BM.ext hb rfl
        replace Bt := Bt.ext hb rfl
        replace hw := hw.trans (hb.mono hw.size)
        clear hb
        obtain ⟨xM, yM, zM, vM⟩ := BM.facts
        obtain ⟨xt, yt, zt, vt⟩ := Bt.facts
        go_wp2_with fail
        clear xM yM zM vM xt yt zt vt
        refine wp_loop_rounds 5 ?_
        try rw [rounds_succ]
        obtain ⟨xM, yM, zM, vM⟩ := BM.facts
        obtain ⟨xt, yt, zt, vt⟩ := Bt.facts
        go_wp2_with fail
        replace HF := HF.ext hw rfl
        replace hg := grown_below hg hw
        have hw : Below w2.heap.size w2 w2 := Below.refl _ _
        have gM := BM.cells
        have gt := Bt.cells
        refine wp_region_tail 8 (by kernel_rfl) (by kernel_rfl) (C := fun w' => ∃ p : Regrown, w' = grow (redrawn w2 p.d) p.os) (fun w' h => regrown_of_below h) ?_
        simp only [List.take_succ_cons, List.take_zero, List.drop_succ_cons, List.drop_zero]
        repeat (first | (refine rWalk_skip (Eq.refl false) ?_; simp only [Act.put, List.setIfInBounds_toArray, List.set_cons_succ, List.set_cons_zero]) | (refine rWalk_step (fun K hK => ?_); go_simp; first | (refine hK _ ?_; clear hK K) | (apply Exists.intro; refine ⟨fun _ => ?_, hK _ ?_⟩; (first | with_reducible exact toExt (way_0 T) _); clear hK K)))
        refine rWalk_nil ?_
        intro w3 hb
        clear gM gt
        clear xM yM zM vM xt yt zt vt
        replace BM := BM.ext hb rfl
        replace Bt := Bt.ext hb rfl
        replace hw := hw.trans (hb.mono hw.size)
        replace HF := HF.ext hw rfl
        replace hg := grown_below hg hw
        clear hw
        refine wpList_store _ rfl _ _ _ rfl kvM rfl HF (T.A, T.B) T rfl rfl (okT_w hokk).1 ?_
        intro c0 HG hh hs
        replace BM := BM.turn HF hh
        replace Bt := Bt.turn HF hh
        replace hg := grown_trans hg hh
        clear HF hh hs
        have HF := HG
        clear HG
        obtain ⟨xM, yM, zM, vM⟩ := BM.facts
        obtain ⟨xt, yt, zt, vt⟩ := Bt.facts
        go_wp2_with fail
        clear xM yM zM vM xt yt zt vt
        try rw [rounds_succ]
        obtain ⟨xM, yM, zM, vM⟩ := BM.facts
        obtain ⟨xt, yt, zt, vt⟩ := Bt.facts
        go_wp2_with fail
        have hw : Below c0.heap.size c0 c0 := Below.refl _ _
        have gM := BM.cells
        have gt := Bt.cells
        refine wp_region_tail 8 (by kernel_rfl) (by kernel_rfl) (C := fun w' => ∃ p : Regrown, w' = grow (redrawn c0 p.d) p.os) (fun w' h => regrown_of_below h) ?_
        simp only [List.take_succ_cons, List.take_zero, List.drop_succ_cons, List.drop_zero]
        repeat (first | (refine rWalk_skip (Eq.refl false) ?_; simp only [Act.put, List.setIfInBounds_toArray, List.set_cons_succ, List.set_cons_zero]) | (refine rWalk_step (fun K hK => ?_); go_simp; first | (refine hK _ ?_; clear hK K) | (apply Exists.intro; refine ⟨fun _ => ?_, hK _ ?_⟩; (first | with_reducible exact toExt (way_1 T) _); clear hK K)))
        refine rWalk_nil ?_
        intro w4 hb
        clear gM gt
        clear xM yM zM vM xt yt zt vt
        replace BM := BM.ext hb rfl
        replace Bt := Bt.ext hb rfl
        replace hw := hw.trans (hb.mono hw.size)
        replace HF := HF.ext hw rfl
        replace hg := grown_below hg hw
        clear hw
        refine wpList_store _ rfl _ _ _ rfl kvM rfl HF (T.B, T.C) T rfl rfl (okT_w hokk).2.1 ?_
        intro c1 HG hh hs
        replace BM := BM.turn HF hh
        replace Bt := Bt.turn HF hh
        replace hg := grown_trans hg hh
        clear HF hh hs
        have HF := HG
        clear HG
        obtain ⟨xM, yM, zM, vM⟩ := BM.facts
        obtain ⟨xt, yt, zt, vt⟩ := Bt.facts
        go_wp2_with fail
        clear xM yM zM vM xt yt zt vt
        try rw [rounds_succ]
        obtain ⟨xM, yM, zM, vM⟩ := BM.facts
        obtain ⟨xt, yt, zt, vt⟩ := Bt.facts
        go_wp2_with fail
        have hw : Below c1.heap.size c1 c1 := Below.refl _ _
        have gM := BM.cells
        have gt := Bt.cells
        refine wp_region_tail 8 (by kernel_rfl) (by kernel_rfl) (C := fun w' => ∃ p : Regrown, w' = grow (redrawn c1 p.d) p.os) (fun w' h => regrown_of_below h) ?_
        simp only [List.take_succ_cons, List.take_zero, List.drop_succ_cons, List.drop_zero]
        repeat (first | (refine rWalk_skip (Eq.refl false) ?_; simp only [Act.put, List.setIfInBounds_toArray, List.set_cons_succ, List.set_cons_zero]) | (refine rWalk_step (fun K hK => ?_); go_simp; first | (refine hK _ ?_; clear hK K) | (apply Exists.intro; refine ⟨fun _ => ?_, hK _ ?_⟩; (first | with_reducible exact toExt (way_2 T) _); clear hK K)))
        refine rWalk_nil ?_
        intro w5 hb
        clear gM gt
        clear xM yM zM vM xt yt zt vt
        replace BM := BM.ext hb rfl
        replace Bt := Bt.ext hb rfl
        replace hw := hw.trans (hb.mono hw.size)
        replace HF := HF.ext hw rfl
        replace hg := grown_below hg hw
        clear hw
        refine wpList_store _ rfl _ _ _ rfl kvM rfl HF (T.C, T.A) T rfl rfl (okT_w hokk).2.2 ?_
        intro c2 HG hh hs
        replace BM := BM.turn HF hh
        replace Bt := Bt.turn HF hh
        replace hg := grown_trans hg hh
        clear HF hh hs
        have HF := HG
        clear HG
        obtain ⟨xM, yM, zM, vM⟩ := BM.facts
        obtain ⟨xt, yt, zt, vt⟩ := Bt.facts
        go_wp2_with fail
        clear xM yM zM vM xt yt zt vt
        try rw [rounds_succ]
        obtain ⟨xM, yM, zM, vM⟩ := BM.facts
        obtain ⟨xt, yt, zt, vt⟩ := Bt.facts
        go_wp2
        go_roundw
        case rel => exact ⟨k + 1, putT F T, by omega, by go_num, HP, HF, hg⟩
        case measure => simp [intOf]; omega
    · have HP := Lib.hid (putRun_end (by rw [hn.out]; omega) hR.out)
      obtain ⟨xm, ym, zm, vm⟩ := BM.facts
      go_wp2
      go_ret
      exact ⟨ret_int (by rw [HP.out]; omega), hg, by rw [HP.out]; exact HF⟩
set_option maxRecDepth 100000 in
set_option maxHeartbeats 2000000 in
theorem mtake_any (mb b : Nat) (E : Es) (a : Option Addr) (cap n : Nat) (L : List Tri3) (hn : Hid (L.length = n)) (hn1 : n ≤ 1000000) (hok : ∀ T ∈ L, okT T) (w : World) (Bm : Box w mb [.map (some b)] 65) (Hm : HoldsMap eW eT okW w b E) (Hr : RowAt cT 6 w a L) :
    Calls Try.prog 69 #[.pointer (some ⟨mb, 0, none⟩), .slice a n cap] w fun e w' => e = .returned (.int .i64 (takeRun E L).1) ∧ w.grownBy w' (some b) ∧ HoldsMap eW eT okW w' b (takeRun E L).2 := by
  have hmb := Bm.ne_map Hm
  obtain ⟨xm, ym, zm, vm⟩ := Bm.facts
  go_enter Try.func69, Try.ntmps69
  go_wp2
  clear xm ym zm vm
  go_loopw [10] (fun i wr => ∃ (k : Nat) (F : Es), k ≤ n ∧ i = .int .i64 k ∧ Hid (takeRun E L = (k + (takeRun F (L.drop k)).1, (takeRun F (L.drop k)).2)) ∧ HoldsMap eW eT okW wr b F ∧ w.grownBy wr (some b)) (fun i _ => n - (intOf i).toNat)
  case atStart => exact ⟨0, E, Nat.zero_le _, rfl, Lib.hid (by simp), Hm, grown_refl _ _⟩
  case round =>
    obtain ⟨k, F, hk, rfl, hR, HF, hg⟩ := hrel
    have BM := Bm.turn Hm hg
    by_cases hlt : k < n
    · have hlk : k < L.length := hn.out ▸ hlt
      have hokk := hok L[k] (List.getElem_mem hlk)
      have hst := fun hf => takeRun_step hlk hR.out hf
      have hsp := fun hf => takeRun_stop hlk hR.out hf
      obtain ⟨ad, A, ea, eA, zA, _, q0, q1, q2, q3, q4, q5⟩ := (Hr.turn cT_ne Hm hg).tri hlk
      generalize L[k] = T at *
      cases hf : hasE F T with
      | false =>
        have HP := Lib.hid (hsp hf)
        clear hst hsp
        have cf := mhas_any mb b F T hokk
        rw [hf] at cf
        clear hf
        obtain ⟨xM, yM, zM, vM⟩ := BM.facts
        go_wp2_with fail
        refine at_call fun W1 hW => ?_
        have Bt : Box W1 wr.heap.size [.int .i64 T.A.x, .int .i64 T.A.y, .int .i64 T.B.x, .int .i64 T.B.y, .int .i64 T.C.x, .int .i64 T.C.y] 25 := by rw [hW]; exact Box.new rfl
        have hw : Below wr.heap.size wr W1 := by rw [hW]; go_grown
        clear hW
        clear xM yM zM vM
        replace BM := BM.ext hw rfl
        clear q0 q1 q2 q3 q4 q5 ea eA zA
        refine (cf _ BM (HF.ext hw rfl)).mono ?_
        rintro e w2 ⟨rfl, hb⟩
        replace BM := BM.ext hb rfl
        replace Bt := Bt.ext hb rfl
        replace hw := hw.trans (hb.mono hw.size)
        clear hb
        obtain ⟨xM, yM, zM, vM⟩ := BM.facts
        obtain ⟨xt, yt, zt, vt⟩ := Bt.facts
        go_wp2
        go_ret
        exact ⟨ret_int (by rw [HP.out]), grown_below hg hw, by rw [HP.out]; exact HF.ext hw rfl⟩
      | true =>
        have HP := Lib.hid (hst hf)
        clear hst hsp
        have cf := mhas_any mb b F T hokk
        rw [hf] at cf
        clear hf
        obtain ⟨xM, yM, zM, vM⟩ := BM.facts
        go_wp2_with fail
        refine at_call fun W1 hW => ?_
        have Bt : Box W1 wr.heap.size [.int .i64 T.A.x, .int .i64 T.A.y, .int .i64 T.B.x, .int .i64 T.B.y, .int .i64 T.C.x, .int .i64 T.C.y] 25 := by rw [hW]; exact Box.new rfl
        have hw : Below wr.heap.size wr W1 := by rw [hW]; go_grown
        clear hW
        clear xM yM zM vM
        replace BM := BM.ext hw rfl
        clear q0 q1 q2 q3 q4 q5 ea eA zA
        refine (cf _ BM (HF.ext hw rfl)).mono ?_
        rintro e w2 ⟨rfl, hb⟩
        replace BM := BM.ext hb rfl
        replace Bt := Bt.ext hb rfl
        replace hw := hw.trans (hb.mono hw.size)
        clear hb
        obtain ⟨xM, yM, zM, vM⟩ := BM.facts
        obtain ⟨xt, yt, zt, vt⟩ := Bt.facts
        go_wp2_with fail
        clear xM yM zM vM xt yt zt vt
        refine wp_loop_rounds 5 ?_
        try rw [rounds_succ]
        obtain ⟨xM, yM, zM, vM⟩ := BM.facts
        obtain ⟨xt, yt, zt, vt⟩ := Bt.facts
        go_wp2_with fail
        replace HF := HF.ext hw rfl
        replace hg := grown_below hg hw
        have hw : Below w2.heap.size w2 w2 := Below.refl _ _
        have gM := BM.cells
        have gt := Bt.cells
        refine wp_region_tail 7 (by kernel_rfl) (by kernel_rfl) (C := fun w' => ∃ p : Regrown, w' = grow (redrawn w2 p.d) p.os) (fun w' h => regrown_of_below h) ?_
        simp only [List.take_succ_cons, List.take_zero, List.drop_succ_cons, List.drop_zero]
        repeat (first | (refine rWalk_skip (Eq.refl false) ?_; simp only [Act.put, List.setIfInBounds_toArray, List.set_cons_succ, List.set_cons_zero]) | (refine rWalk_step (fun K hK => ?_); go_simp; first | (refine hK _ ?_; clear hK K) | (apply Exists.intro; refine ⟨fun _ => ?_, hK _ ?_⟩; (first | with_reducible exact toExt (way_0 T) _); clear hK K)))
        refine rWalk_nil ?_
        intro w3 hb
        clear gM gt
        clear xM yM zM vM xt yt zt vt
        replace BM := BM.ext hb rfl
        replace Bt := Bt.ext hb rfl
        replace hw := hw.trans (hb.mono hw.size)
        replace HF := HF.ext hw rfl
        replace hg := grown_below hg hw
        clear hw
        refine wpList_drop _ rfl _ _ rfl kvM rfl HF (T.A, T.B) rfl (okT_w hokk).1 ?_
        intro c0 HG hh hs
        replace BM := BM.turn HF hh
        replace Bt := Bt.turn HF hh
        replace hg := grown_trans hg hh
        clear HF hh hs
        have HF := HG
        clear HG
        obtain ⟨xM, yM, zM, vM⟩ := BM.facts
        obtain ⟨xt, yt, zt, vt⟩ := Bt.facts
        go_wp2_with fail
        clear xM yM zM vM xt yt zt vt
        try rw [rounds_succ]
        obtain ⟨xM, yM, zM, vM⟩ := BM.facts
        obtain ⟨xt, yt, zt, vt⟩ := Bt.facts
        go_wp2_with fail
        have hw : Below c0.heap.size c0 c0 := Below.refl _ _
        have gM := BM.cells
        have gt := Bt.cells
        refine wp_region_tail 7 (by kernel_rfl) (by kernel_rfl) (C := fun w' => ∃ p : Regrown, w' = grow (redrawn c0 p.d) p.os) (fun w' h => regrown_of_below h) ?_
        simp only [List.take_succ_cons, List.take_zero, List.drop_succ_cons, List.drop_zero]
        repeat (first | (refine rWalk_skip (Eq.refl false) ?_; simp only [Act.put, List.setIfInBounds_toArray, List.set_cons_succ, List.set_cons_zero]) | (refine rWalk_step (fun K hK => ?_); go_simp; first | (refine hK _ ?_; clear hK K) | (apply Exists.intro; refine ⟨fun _ => ?_, hK _ ?_⟩; (first | with_reducible exact toExt (way_1 T) _); clear hK K)))
        refine rWalk_nil ?_
        intro w4 hb
        clear gM gt
        clear xM yM zM vM xt yt zt vt
        replace BM := BM.ext hb rfl
        replace Bt := Bt.ext hb rfl
        replace hw := hw.trans (hb.mono hw.size)
        replace HF := HF.ext hw rfl
        replace hg := grown_below hg hw
        clear hw
        refine wpList_drop _ rfl _ _ rfl kvM rfl HF (T.B, T.C) rfl (okT_w hokk).2.1 ?_
        intro c1 HG hh hs
        replace BM := BM.turn HF hh
        replace Bt := Bt.turn HF hh
        replace hg := grown_trans hg hh
        clear HF hh hs
        have HF := HG
        clear HG
        obtain ⟨xM, yM, zM, vM⟩ := BM.facts
        obtain ⟨xt, yt, zt, vt⟩ := Bt.facts
        go_wp2_with fail
        clear xM yM zM vM xt yt zt vt
        try rw [rounds_succ]
        obtain ⟨xM, yM, zM, vM⟩ := BM.facts
        obtain ⟨xt, yt, zt, vt⟩ := Bt.facts
        go_wp2_with fail
        have hw : Below c1.heap.size c1 c1 := Below.refl _ _
        have gM := BM.cells
        have gt := Bt.cells
        refine wp_region_tail 7 (by kernel_rfl) (by kernel_rfl) (C := fun w' => ∃ p : Regrown, w' = grow (redrawn c1 p.d) p.os) (fun w' h => regrown_of_below h) ?_
        simp only [List.take_succ_cons, List.take_zero, List.drop_succ_cons, List.drop_zero]
        repeat (first | (refine rWalk_skip (Eq.refl false) ?_; simp only [Act.put, List.setIfInBounds_toArray, List.set_cons_succ, List.set_cons_zero]) | (refine rWalk_step (fun K hK => ?_); go_simp; first | (refine hK _ ?_; clear hK K) | (apply Exists.intro; refine ⟨fun _ => ?_, hK _ ?_⟩; (first | with_reducible exact toExt (way_2 T) _); clear hK K)))
        refine rWalk_nil ?_
        intro w5 hb
        clear gM gt
        clear xM yM zM vM xt yt zt vt
        replace BM := BM.ext hb rfl
        replace Bt := Bt.ext hb rfl
        replace hw := hw.trans (hb.mono hw.size)
        replace HF := HF.ext hw rfl
        replace hg := grown_below hg hw
        clear hw
        refine wpList_drop _ rfl _ _ rfl kvM rfl HF (T.C, T.A) rfl (okT_w hokk).2.2 ?_
        intro c2 HG hh hs
        replace BM := BM.turn HF hh
        replace Bt := Bt.turn HF hh
        replace hg := grown_trans hg hh
        clear HF hh hs
        have HF := HG
        clear HG
        obtain ⟨xM, yM, zM, vM⟩ := BM.facts
        obtain ⟨xt, yt, zt, vt⟩ := Bt.facts
        go_wp2_with fail
        clear xM yM zM vM xt yt zt vt
        try rw [rounds_succ]
        obtain ⟨xM, yM, zM, vM⟩ := BM.facts
        obtain ⟨xt, yt, zt, vt⟩ := Bt.facts
        go_wp2
        go_roundw
        case rel => exact ⟨k + 1, takeT F T, by omega, by go_num, HP, HF, hg⟩
        case measure => simp [intOf]; omega
    · have HP := Lib.hid (takeRun_end (by rw [hn.out]; omega) hR.out)
      obtain ⟨xm, ym, zm, vm⟩ := BM.facts
      go_wp2
      go_ret
      exact ⟨ret_int (by rw [HP.out]; omega), hg, by rw [HP.out]; exact HF⟩
end Go.Proofs.Ytaegobkkcgheeaa
