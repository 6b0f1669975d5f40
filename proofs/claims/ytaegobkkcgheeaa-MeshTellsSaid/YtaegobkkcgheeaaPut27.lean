/- Put together: MesQ, MesS, MesX. -/
import Derived.Test.YtaegobkkcgheeaaRows
import Derived.Test.YtaegobkkcgheeaaPut26
import Derived.Test.YtaegobkkcgheeaaPut13
import Derived.Test.YtaegobkkcgheeaaPut1
import Derived.WalkKit
import Derived.WalkSpells
import Derived.WalkLawsBesides
import Derived.Laws.Externs
import Derived.Deep.QuietTactic
import Derived.BigQuiet
import Derived.Lib.Hide
import Derived.Handy
import Derived.LoopN
import Derived.RegionTactic
import Derived.Test.YtaegobkkcgheeaaPut17
namespace Go.Proofs.Ytaegobkkcgheeaa
open Go.RowKit

def wys (T : Tri3) : Es := [((T.A, T.B), T), ((T.B, T.C), T), ((T.C, T.A), T)]
theorem val_apart {T : Tri3} (h : valT T = true) : T.A ≠ T.B ∧ T.B ≠ T.C ∧ T.C ≠ T.A := by
  unfold valT at h
  simp only [Bool.and_eq_true, Bool.not_eq_true', decide_eq_false_iff_not] at h
  have h0 := h.1
  refine ⟨fun e => h0 ?_, fun e => h0 ?_, fun e => h0 ?_⟩
  · rw [e]; unfold ori det; simp [sgn]
  · rw [e]; unfold ori det; rw [Int.mul_comm (T.C.x - T.A.x)]; simp [sgn]
  · rw [e]; unfold ori det; simp [sgn]
theorem fits_parts {E : Es} {T : Tri3} (h : fitsE E T = true) : getE E (T.A, T.B) = none ∧ getE E (T.B, T.C) = none ∧ getE E (T.C, T.A) = none ∧ valT T = true := by
  unfold fitsE at h
  simpa only [Bool.and_eq_true, Option.isNone_iff_eq_none] using h
theorem putT_eq {E : Es} {T : Tri3} (h : fitsE E T = true) : (putT E T).Perm (E ++ wys T) := by
  obtain ⟨h1, h2, h3, hv⟩ := fits_parts h
  obtain ⟨a1, a2, a3⟩ := val_apart hv
  rw [getE_none_iff] at h1 h2 h3
  unfold putT putE wys
  rw [delE_none h1, delE_none (x := (T.B, T.C)) (E := ((T.A, T.B), T) :: E) (fun p hp => by
    rcases List.mem_cons.1 hp with rfl | hp
    · intro e; simp at e; exact a1 e.1
    · exact h2 p hp), delE_none (x := (T.C, T.A)) (E := ((T.B, T.C), T) :: ((T.A, T.B), T) :: E) (fun p hp => by
    rcases List.mem_cons.1 hp with rfl | hp
    · intro e; simp at e; exact a2 e.1
    · rcases List.mem_cons.1 hp with rfl | hp
      · intro e; simp at e; exact a3 e.1.symm
      · exact h3 p hp)]
  refine List.Perm.trans ?_ (List.perm_append_comm (l₁ := [((T.A, T.B), T), ((T.B, T.C), T), ((T.C, T.A), T)]))
  exact (List.reverse_perm [((T.A, T.B), T), ((T.B, T.C), T), ((T.C, T.A), T)]).append_right E
theorem putRun_all : ∀ (L : List Tri3) (E : Es), (putRun E L).1 = L.length → (putRun E L).2.Perm (E ++ L.flatMap wys) ∧ ∀ T ∈ L, valT T = true
  | [], E, _ => ⟨by simp [putRun], by simp⟩
  | T :: L, E, h => by
    unfold putRun at h ⊢
    by_cases hf : fitsE E T = true
    · rw [if_pos hf] at h ⊢
      have ih := putRun_all L (putT E T) (by simpa using h)
      refine ⟨ih.1.trans ?_, fun S hS => ?_⟩
      · rw [List.flatMap_cons, ← List.append_assoc]
        exact (putT_eq hf).append_right _
      · rcases List.mem_cons.1 hS with rfl | hS
        · exact (fits_parts hf).2.2.2
        · exact ih.2 S hS
    · rw [if_neg hf] at h
      simp at h
structure Good (E : Es) (L : List Tri3) : Prop where
  perm : E.Perm (L.flatMap wys)
  nodup : KeysNodup E
  val : ∀ T ∈ L, valT T = true
theorem heads_wys : ∀ (L : List Tri3), (∀ T ∈ L, valT T = true) → heads yes (L.flatMap wys) = L
  | [], _ => rfl
  | T :: L, h => by
    obtain ⟨a1, a2, a3⟩ := val_apart (h T (by simp))
    rw [List.flatMap_cons, heads_append, heads_wys L (fun S hS => h S (by simp [hS]))]
    have : heads yes (wys T) = [T] := by
      unfold heads wys yes
      simp [Ne.symm a1, a3]
    rw [this]; rfl
theorem Good.heads {E : Es} {L : List Tri3} (h : Good E L) : (heads yes E).Perm L := by
  have := heads_perm (p := yes) h.perm
  rwa [heads_wys L h.val] at this
theorem wys_len : ∀ L : List Tri3, (L.flatMap wys).length = 3 * L.length
  | [] => rfl
  | T :: L => by rw [List.flatMap_cons, List.length_append, wys_len L, List.length_cons]; simp [wys]; omega
theorem Good.len {E : Es} {L : List Tri3} (h : Good E L) : E.length = 3 * L.length := by rw [h.perm.length_eq, wys_len]
theorem froms_wys : ∀ L : List Tri3, froms (L.flatMap wys) = cnrs L
  | [] => rfl
  | T :: L => by
    have ih := froms_wys L
    unfold froms cnrs at *
    rw [List.flatMap_cons, List.map_append, ih, List.flatMap_cons]; rfl
theorem Good.froms {E : Es} {L S : List Tri3} (h : Good E L) (hS : S.Perm L) (p : Pt) : p ∈ froms E ↔ p ∈ cnrs S := by
  have h1 : (Go.Proofs.Ytaegobkkcgheeaa.froms E).Perm (cnrs L) := by
    rw [← froms_wys L]; exact h.perm.map _
  rw [h1.mem_iff]
  unfold cnrs
  exact (hS.flatMap_right _).mem_iff.symm
theorem Good.left {E : Es} {L : List Tri3} (h : Good E L) {T : Tri3} (hT : T ∈ L) {i : Int} (hi : i = 0 ∨ i = 1 ∨ i = 2) : lftE E (crn T i) (crn T (i + 1)) = (T, true) := by
  refine lftE_some (getE_some h.nodup (h.perm.mem_iff.2 (List.mem_flatMap.2 ⟨T, hT, ?_⟩)))
  rcases hi with rfl | rfl | rfl <;> simp [wys, crn, plc]
theorem ok_cnrs {L : List Tri3} (h : ∀ T ∈ L, okT T) (i : Int) {T : Tri3} (hT : T ∈ L) : okP (crn T i) := okP_crn (h T hT) i
end Go.Proofs.Ytaegobkkcgheeaa

namespace Go.Proofs.Ytaegobkkcgheeaa
open Go.RowKit Go.Sort
attribute [local go_sem] rOper rAt rUpon cell_set sg_i64 sg_u64 alloc_cell alloc_frozen
attribute [local go_sem 10000] pt_eql pt_neq tri_eql
attribute [local irreducible] rWalk

attribute [local go_sem 10000] tri_neq
theorem len_le_of_mem : ∀ (M N : List Pt), M.Nodup → (∀ p ∈ M, p ∈ N) → M.length ≤ N.length
  | [], _, _, _ => Nat.zero_le _
  | p :: M, N, hn, h => by
    have hp := h p (by simp)
    have ih := len_le_of_mem M (N.erase p) (List.nodup_cons.1 hn).2 (fun q hq => (List.mem_erase_of_ne (fun e => (List.nodup_cons.1 hn).1 (by rw [← e]; exact hq))).2 (h q (by simp [hq])))
    rw [List.length_erase_of_mem hp] at ih
    have := List.length_pos_of_mem hp
    simp only [List.length_cons]; omega
theorem alloc_cellA (w : World) (o : Obj) (A : Addr) (h : (A.block = w.heap.size) = False) : (w.alloc o).cell? A = w.cell? A := by
  have h' : A.block ≠ w.heap.size := fun e => h.mp e
  unfold World.alloc World.cell?
  simp only [Array.getElem?_push, if_neg h']
attribute [local go_sem] alloc_cellA
theorem rising_small {M : List Pt} (E : Es) (hE : E.length ≤ 1000000) (h : Rising cmpP M) (hm : ∀ p, p ∈ M ↔ p ∈ froms E) : M.length ≤ 1000000 := by
  have hnd : M.Nodup := h.imp (fun {a b} hab e => by subst e; have := (cmpP_eq0 (p := a) (q := a)).2 rfl; omega)
  have := len_le_of_mem M (froms E) hnd (fun p hp => (hm p).1 hp)
  unfold froms at this
  rw [List.length_map] at this
  omega
set_option maxRecDepth 100000 in
set_option maxHeartbeats 8000000 in
theorem shows_any (mb b rb rm : Nat) (E : Es) (L : List Tri3) (hG : Hid (Good E L)) (hok : ∀ T ∈ L, okT T) (hL : L.length ≤ 1000) (w : World) (Bm0 : Box w mb [.map (some b)] 65) (Hm0 : HoldsMap eW eT okW w b E) (Rm0 : Box w rm [.map (some rb)] 69) (Hr0 : HoldsMap eW eT okW w rb E) :
    Calls Try.prog 19 #[.pointer (some ⟨mb, 0, none⟩), .pointer (some ⟨rm, 0, none⟩)] w fun e w' => e = .returned (.bool true) ∧ Below w.heap.size w w' := by
  have hlen := hG.out.len
  have HP := Lib.hid ((srt_perm (c := cmpT) (heads yes E)).trans hG.out.heads)
  have hEl : E.length ≤ 1000000 := by omega
  have ct := fun w0 B H => rtris_any rm rb E hEl w0 B H
  have cm := fun w0 B H => mtris_any mb b E hEl w0 B H
  have cp := fun w0 B H => mpoints_any mb b E hEl w0 B H
  have hF := Lib.hid (hG.out.froms HP.out)
  change ∀ w0 B H, Calls _ _ _ _ fun e w' => ∃ a cap, e = .returned (.slice a (srt cmpT (heads yes E)).length cap) ∧ RowAt cT 6 w' a (srt cmpT (heads yes E)) ∧ Below w0.heap.size w0 w' at ct cm
  generalize srt cmpT (heads yes E) = S at *
  obtain ⟨n, hn⟩ : ∃ n, S.length = n := ⟨_, rfl⟩
  have hnL : n = L.length := by rw [← hn, HP.out.length_eq]
  have cn := fun w0 B H => mlen_any mb b E n (Lib.hid (by rw [hlen, hnL])) (by omega) w0 B H
  have hn1 : n ≤ 1000 := by omega
  have HN := Lib.hid hn
  have hokS : ∀ (i : Nat) (h : i < S.length), okT S[i] ∧ S[i] ∈ L := fun i h => ⟨hok _ (HP.out.mem_iff.1 (List.getElem_mem h)), HP.out.mem_iff.1 (List.getElem_mem h)⟩
  rw [hn] at ct cm
  clear hn hnL hlen hL hok
  go_enter Try.func19, Try.ntmps19
  go_wp2_with fail
  refine (ct _ Rm0 Hr0).mono ?_
  rintro e w1 ⟨a, cap, rfl, hr, hb1⟩
  have Bm := Bm0.ext hb1 rfl
  have Hm := Hm0.ext hb1 rfl
  have Rm := Rm0.ext hb1 rfl
  have Hr := Hr0.ext hb1 rfl
  go_wp2_with fail
  refine (cn _ Bm Hm).mono ?_
  rintro e w2 ⟨rfl, hb2⟩
  have hnn : ((n : Int) != n) = false := by simp
  go_wp2_with fail
  refine (cm _ (Bm.ext hb2 rfl) (Hm.ext hb2 rfl)).mono ?_
  rintro e w3 ⟨a3, cap3, rfl, hr3, hb3⟩
  have hw3 := hb2.trans (hb3.mono hb2.size)
  have hal := alike_T a3 a cap3 cap S S w3 hr3 (hr.ext hw3 rfl) (by rw [HN.out]; omega)
  rw [HN.out, show decide (S = S) = true by simp] at hal
  go_wp2_with fail
  refine hal.mono ?_
  rintro e w4 ⟨rfl, hb4⟩
  have hw4 := hw3.trans (hb4.mono hw3.size)
  clear hal hb3 hb4
  go_wp2_with fail
  refine (cp _ (Bm.ext hw4 rfl) (Hm.ext hw4 rfl)).mono ?_
  rintro e w5 ⟨M1, a5, cap5, rfl, hr5, hi5, hm5, hb5⟩
  have hw5 := hw4.trans (hb5.mono hw4.size)
  clear hb5
  go_wp2_with fail
  refine (rcorners_any a cap n S HN (by omega) _ (hr.ext hw5 rfl)).mono ?_
  rintro e w6 ⟨M2, a6, cap6, rfl, hr6, hi6, hm6, hb6⟩
  have hw6 := hw5.trans (hb6.mono hw5.size)
  have hM : M1 = M2 := rising_unique wholeP hi5 hi6 (fun p => by rw [hm5 p, hm6 p]; exact hF.out p)
  subst hM
  have hle : M1.length ≤ 1000000 := rising_small E hEl hi5 hm5
  have hal := alike_P a5 a6 cap5 cap6 M1 M1 w6 (hr5.ext hb6 rfl) hr6 hle
  rw [show decide (M1 = M1) = true by simp] at hal
  clear hi5 hi6 hm5 hm6 hr5 hb6
  go_wp2_with fail
  refine hal.mono ?_
  rintro e w7 ⟨rfl, hb7⟩
  have hw7 := hw6.trans (hb7.mono hw6.size)
  clear hb7 hal hr6
  go_wp2
  go_loopw [6] (fun vi wr => ∃ i : Nat, vi = .int .i64 i ∧ i ≤ n ∧ Below w1.heap.size w1 wr) (fun vi _ => n - (intOf vi).toNat)
  case atStart => exact ⟨0, rfl, Nat.zero_le _, hw7⟩
  case round =>
    clear hw7 hw6 hw5 hw4 hw3
    obtain ⟨i, rfl, hi, hw⟩ := hrel
    by_cases hil : i < n
    case neg =>
      go_wp2
      go_ret
      exact ⟨rfl, hb1.trans (hw.mono hb1.size)⟩
    case pos =>
      have hiS : i < S.length := HN.out ▸ hil
      obtain ⟨hokT, hTL⟩ := hokS i hiS
      obtain ⟨ad, A, ea, eA, hA0⟩ := hr.six hiS
      generalize S[i] = T at *
      go_wp2
      go_loopw [7] (fun vk wr => ∃ k : Nat, vk = .int .i64 k ∧ k ≤ 3 ∧ Below w1.heap.size w1 wr) (fun vk _ => 3 - (intOf vk).toNat)
      case atStart => exact ⟨0, rfl, by omega, hw⟩
      case round =>
        clear hw
        obtain ⟨k, rfl, hk, hw⟩ := hrel
        by_cases hk3 : k < 3
        case neg =>
          go_wp2
          try rw [← ea]
          go_roundw
          case rel => exact ⟨i + 1, by go_num, by omega, hw⟩
          case measure => simp [intOf]; omega
        case pos =>
            have ca := across_any mb b E T k hokT
            have cr := racross_any rm rb E T k hokT (by omega) (by omega)
            have cl0 := left_any mb b E (crn T k) (crn T ((k : Int) + 1)) ⟨okP_crn hokT _, okP_crn hokT _⟩
            rw [hG.out.left hTL (by omega)] at cl0
            have c1 := rcorner_any T k
            have c2 := rcorner_any T ((k : Int) + 1)
            have hki : IntKind.i64.wrap ((k : Int) + 1) = (k : Int) + 1 := by rw [IntKind.wrap_i64]; omega
            generalize acrE E T k = xv at *
            obtain ⟨X, v⟩ := xv
            dsimp only at ca cr cl0
            generalize crn T k = P at *
            generalize crn T ((k : Int) + 1) = Q at *
            have tt : teq X X = true := teq_iff.2 rfl
            have tT : teq T T = true := teq_iff.2 rfl
            have vv : (v != v) = false := by simp
            obtain ⟨zA, q0, q1, q2, q3, q4, q5⟩ := (hA0.ext hw rfl).facts
            go_wp2_with fail
            refine (ca _ (Bm.ext hw rfl) (Hm.ext hw rfl)).mono ?_
            rintro e w11 ⟨rfl, hb⟩
            replace hw := hw.trans (hb.mono hw.size)
            clear hb
            clear zA q0 q1 q2 q3 q4 q5
            obtain ⟨zA, q0, q1, q2, q3, q4, q5⟩ := (hA0.ext hw rfl).facts
            go_wp2_with fail
            clear zA q0 q1 q2 q3 q4 q5
            refine at_call fun W2 hW => ?_
            obtain ⟨bkx, hbx⟩ : ∃ b, w11.heap.size = b := ⟨_, rfl⟩
            rw [hbx]
            have fx := hw.size
            rw [hbx] at fx
            have Bx : Box W2 bkx [.int .i64 X.A.x, .int .i64 X.A.y, .int .i64 X.B.x, .int .i64 X.B.y, .int .i64 X.C.x, .int .i64 X.C.y] 25 := by rw [hW]; exact Box.new hbx.symm
            replace hw : Below w1.heap.size w1 W2 := by have hl := hw.size; rw [hW]; go_grown
            clear hW hbx
            refine (cr _ (Rm.ext hw rfl) (Hr.ext hw rfl)).mono ?_
            rintro e w31 ⟨rfl, hb⟩
            replace Bx := Bx.ext hb rfl
            replace hw := hw.trans (hb.mono hw.size)
            clear hb
            obtain ⟨zA, q0, q1, q2, q3, q4, q5⟩ := (hA0.ext hw rfl).facts
            obtain ⟨xx, yx, zx, vx⟩ := Bx.facts
            go_wp2_with fail
            clear xx yx zx vx
            clear zA q0 q1 q2 q3 q4 q5
            refine at_world fun W4 hW => ?_
            obtain ⟨bky, hby⟩ : ∃ b, w31.heap.size = b := ⟨_, rfl⟩
            rw [hby]
            have lxy := Bx.lt
            rw [hby] at lxy
            have fy := hw.size
            rw [hby] at fy
            have By : Box W4 bky [.int .i64 X.A.x, .int .i64 X.A.y, .int .i64 X.B.x, .int .i64 X.B.y, .int .i64 X.C.x, .int .i64 X.C.y] 25 := by rw [hW]; exact Box.new hby.symm
            replace Bx : Box W4 (bkx) [.int .i64 X.A.x, .int .i64 X.A.y, .int .i64 X.B.x, .int .i64 X.B.y, .int .i64 X.C.x, .int .i64 X.C.y] 25 := by rw [hW]; exact Bx.old _
            replace hw : Below w1.heap.size w1 W4 := by have hl := hw.size; rw [hW]; go_grown
            clear hW hby
            have BM : Box W4 mb [.map (some b)] 65 := Bm.ext hw rfl
            have hA := hA0.ext hw rfl
            obtain ⟨t0, t1, t2, t3, t4, t5⟩ := hA.cells
            have cl : ∀ d os, Calls Try.prog 20 #[.pointer (some ⟨mb, 0, none⟩), .agg #[.int .i64 P.x, .int .i64 P.y], .agg #[.int .i64 Q.x, .int .i64 Q.y]] (grow (redrawn W4 d) os) fun e w' => e = .returned (.tuple #[.agg #[.int .i64 T.A.x, .int .i64 T.A.y, .int .i64 T.B.x, .int .i64 T.B.y, .int .i64 T.C.x, .int .i64 T.C.y], .bool true]) ∧ Below (grow (redrawn W4 d) os).heap.size (grow (redrawn W4 d) os) w' := fun d os => cl0 _ ((Bm.ext hw rfl).ext (below_regrown W4 d os) rfl) ((Hm.ext hw rfl).ext (below_regrown W4 d os) rfl)
            have gx := Bx.cells
            have gy := By.cells
            have gM := BM.cells
            refine wp_region_lateG2 18 12 82 [.int .i64 T.A.x, .int .i64 T.A.y, .int .i64 T.B.x, .int .i64 T.B.y, .int .i64 T.C.x, .int .i64 T.C.y] (zs := [.int .i64 0, .int .i64 0, .int .i64 0, .int .i64 0, .int .i64 0, .int .i64 0]) (eff := eff6 (.int .i64 T.A.x) (.int .i64 T.A.y) (.int .i64 T.B.x) (.int .i64 T.B.y) (.int .i64 T.C.x) (.int .i64 T.C.y)) eff6_spec rfl rfl rfl rfl rfl rfl rfl (by simp) (fun ρ W => by simp [execOp, go_sem]; rfl) (by kernel_rfl) (by as_aux_lemma => kernel_rfl) (C := fun w' => ∃ p : Regrown, w' = grow (redrawn W4 p.d) p.os) (fun w' h => regrown_of_below h) ?_ (fun ρ W b e1 e2 hB => by obtain ⟨x, y, _, _⟩ := hB.facts; simp [execOp, go_sem, e1, e2, x, y, eff6])
            simp only [List.take_succ_cons, List.take_zero, List.drop_succ_cons, List.drop_zero]
            repeat (first | (refine rWalk_skip (Eq.refl false) ?_; simp only [Act.put, List.setIfInBounds_toArray, List.set_cons_succ, List.set_cons_zero]) | (refine rWalk_step (fun K hK => ?_); go_simp; first | (refine hK _ ?_; clear hK K) | (apply Exists.intro; refine ⟨fun _ => ?_, hK _ ?_⟩; (first | with_reducible exact toExt c1 _ | with_reducible exact toExt c2 _ | with_reducible exact toExtD cl _ _); clear hK K)))
            refine rWalk_nil ⟨rfl, ?_⟩
            intro w5 bkz hb h1b h2b Bz
            have lxz := Bx.lt
            have lyz := By.lt
            have lMz := BM.lt
            have hw0z := hw.size
            clear gx gy gM
            replace Bx := Bx.ext hb rfl
            replace By := By.ext hb rfl
            replace BM := BM.ext hb rfl
            replace hw := hw.trans (hb.mono hw.size)
            have fz := h1b
            have hwz : w1.heap.size ≤ W4.heap.size := hw0z
            clear hb h1b h2b hw0z
            simp only [Act.put]
            clear cl t0 t1 t2 t3 t4 t5 hA
            obtain ⟨xx, yx, zx, vx⟩ := Bx.facts
            obtain ⟨xy, yy, zy, vy⟩ := By.facts
            obtain ⟨xM, yM, zM, vM⟩ := BM.facts
            obtain ⟨xz, yz, zz, vz⟩ := Bz.facts
            go_wp2_with fail
            clear xx yx zx vx xy yy zy vy xM yM zM vM xz yz zz vz
            refine at_world fun W56 hW => ?_
            replace hw : Below w1.heap.size w1 W56 := by rw [hW]; exact hw
            replace Bx : Box W56 (bkx) [.int .i64 X.A.x, .int .i64 X.A.y, .int .i64 X.B.x, .int .i64 X.B.y, .int .i64 X.C.x, .int .i64 X.C.y] 25 := by rw [hW]; exact Bx
            replace By : Box W56 (bky) [.int .i64 X.A.x, .int .i64 X.A.y, .int .i64 X.B.x, .int .i64 X.B.y, .int .i64 X.C.x, .int .i64 X.C.y] 25 := by rw [hW]; exact By
            replace BM : Box W56 (mb) [.map (some b)] 65 := by rw [hW]; exact BM
            replace Bz : Box W56 (bkz) [.int .i64 T.A.x, .int .i64 T.A.y, .int .i64 T.B.x, .int .i64 T.B.y, .int .i64 T.C.x, .int .i64 T.C.y] 25 := by rw [hW]; exact Bz
            clear hW
            obtain ⟨t0, t1, t2, t3, t4, t5⟩ := (hA0.ext hw rfl).cells
            have gx := Bx.cells
            have gy := By.cells
            have gM := BM.cells
            have gz := Bz.cells
            refine wp_region_tail 19 (by kernel_rfl) (by kernel_rfl) (C := fun w' => ∃ p : Regrown, w' = grow (redrawn W56 p.d) p.os) (fun w' h => regrown_of_below h) ?_
            simp only [List.take_succ_cons, List.take_zero, List.drop_succ_cons, List.drop_zero]
            repeat (first | (refine rWalk_skip (Eq.refl false) ?_; simp only [Act.put, List.setIfInBounds_toArray, List.set_cons_succ, List.set_cons_zero]) | (refine rWalk_step (fun K hK => ?_); go_simp; first | (refine hK _ ?_; clear hK K) | (apply Exists.intro; refine ⟨fun _ => ?_, hK _ ?_⟩; (first | fail); clear hK K)))
            refine rWalk_nil ?_
            intro w7 hb
            clear gx gy gM gz
            replace Bx := Bx.ext hb rfl
            replace By := By.ext hb rfl
            replace BM := BM.ext hb rfl
            replace Bz := Bz.ext hb rfl
            replace hw := hw.trans (hb.mono hw.size)
            clear t0 t1 t2 t3 t4 t5
            obtain ⟨xx, yx, zx, vx⟩ := Bx.facts
            obtain ⟨xy, yy, zy, vy⟩ := By.facts
            obtain ⟨xM, yM, zM, vM⟩ := BM.facts
            obtain ⟨xz, yz, zz, vz⟩ := Bz.facts
            go_wp2
            try rw [← ea]
            go_roundw
            case rel => exact ⟨k + 1, by go_num, by omega, hw⟩
            case measure => simp [intOf]; omega
end Go.Proofs.Ytaegobkkcgheeaa

namespace Go.Proofs.Ytaegobkkcgheeaa
open Go.RowKit Go.Sort
attribute [local go_sem] rOper rAt rUpon cell_set sg_i64 sg_u64 alloc_cell alloc_frozen
attribute [local go_sem 10000] pt_eql pt_neq tri_eql
attribute [local irreducible] rWalk

set_option maxRecDepth 100000 in
set_option maxHeartbeats 2000000 in
theorem mt_big (haw : ∀ w, Calls Try.prog 16 #[] w fun e w' => e = .returned (.bool true) ∧ Below w.heap.size w w') (a : Option Addr) (cap n : Nat) (T : Tri3) (p q : Pt) (hn : 40 < n) (w : World) :
    Calls Try.prog 4 #[.slice a n cap, .agg #[.int .i64 T.A.x, .int .i64 T.A.y, .int .i64 T.B.x, .int .i64 T.B.y, .int .i64 T.C.x, .int .i64 T.C.y], .agg #[.int .i64 p.x, .int .i64 p.y], .agg #[.int .i64 q.x, .int .i64 q.y]] w fun e w' => e = .returned (.bool true) ∧ Below w.heap.size w w' := by
  have hd : decide (40 < n) = true := by simpa using hn
  go_enter Try.func4, Try.ntmps4
  go_wp2_with fail
  refine at_call fun W1 hW => ?_
  have Bt : Box W1 (w.heap.size) [.int .i64 T.A.x, .int .i64 T.A.y, .int .i64 T.B.x, .int .i64 T.B.y, .int .i64 T.C.x, .int .i64 T.C.y] 25 := by rw [hW]; exact ((Box.new rfl).old _).old _
  have Ba : Box W1 (w.heap.size + 1) [.int .i64 p.x, .int .i64 p.y] 23 := by rw [hW]; exact (Box.new (by simp)).old _
  have Bb : Box W1 (w.heap.size + 1 + 1) [.int .i64 q.x, .int .i64 q.y] 23 := by rw [hW]; exact Box.new (by simp)
  have hw : Below w.heap.size w W1 := by rw [hW]; go_grown
  clear hW
  refine (haw _).mono ?_
  rintro e w2 ⟨rfl, hb⟩
  replace Bt := Bt.ext hb rfl
  replace Ba := Ba.ext hb rfl
  replace Bb := Bb.ext hb rfl
  replace hw := hw.trans (hb.mono hw.size)
  clear hb
  obtain ⟨xt, yt, zt, vt⟩ := Bt.facts
  obtain ⟨xa, ya, za, va⟩ := Ba.facts
  obtain ⟨xb, yb, zb, vb⟩ := Bb.facts
  go_wp2
  go_ret
  exact ⟨rfl, hw⟩
set_option maxRecDepth 100000 in
set_option maxHeartbeats 2000000 in
theorem mt_bad (haw : ∀ w, Calls Try.prog 16 #[] w fun e w' => e = .returned (.bool true) ∧ Below w.heap.size w w') (a : Option Addr) (cap n : Nat) (L : List Tri3) (hL : Hid (L.length = n)) (hn : n ≤ 40) (hok : ∀ T ∈ L, okT T) (T : Tri3) (p q : Pt) (hx : (putRun [] L).1 < n) (w : World) (Hr : RowAt cT 6 w a L) :
    Calls Try.prog 4 #[.slice a n cap, .agg #[.int .i64 T.A.x, .int .i64 T.A.y, .int .i64 T.B.x, .int .i64 T.B.y, .int .i64 T.C.x, .int .i64 T.C.y], .agg #[.int .i64 p.x, .int .i64 p.y], .agg #[.int .i64 q.x, .int .i64 q.y]] w fun e w' => e = .returned (.bool true) ∧ Below w.heap.size w w' := by
  have hd : decide (40 < n) = false := by simpa using hn
  have cn := fun w' H => mnew_0 a cap n L hL (by omega) hok hx w' H
  have cr := fun w' H => rnew_any a cap n L hL (by omega) hok w' H
  go_enter Try.func4, Try.ntmps4
  go_wp2_with fail
  refine at_call fun W1 hW => ?_
  have Bt : Box W1 (w.heap.size) [.int .i64 T.A.x, .int .i64 T.A.y, .int .i64 T.B.x, .int .i64 T.B.y, .int .i64 T.C.x, .int .i64 T.C.y] 25 := by rw [hW]; exact ((Box.new rfl).old _).old _
  have Ba : Box W1 (w.heap.size + 1) [.int .i64 p.x, .int .i64 p.y] 23 := by rw [hW]; exact (Box.new (by simp)).old _
  have Bb : Box W1 (w.heap.size + 1 + 1) [.int .i64 q.x, .int .i64 q.y] 23 := by rw [hW]; exact Box.new (by simp)
  have hw : Below w.heap.size w W1 := by rw [hW]; go_grown
  clear hW
  refine (cn _ (Hr.ext hw rfl)).mono ?_
  rintro e w2 ⟨rfl, hb⟩
  replace Bt := Bt.ext hb rfl
  replace Ba := Ba.ext hb rfl
  replace Bb := Bb.ext hb rfl
  replace hw := hw.trans (hb.mono hw.size)
  clear hb
  obtain ⟨xt, yt, zt, vt⟩ := Bt.facts
  obtain ⟨xa, ya, za, va⟩ := Ba.facts
  obtain ⟨xb, yb, zb, vb⟩ := Bb.facts
  go_wp2_with fail
  clear xt yt zt vt xa ya za va xb yb zb vb
  refine (cr _ (Hr.ext hw rfl)).mono ?_
  rintro e w3 hpost
  unfold RNewPost at hpost
  obtain ⟨mb, b, _, _, _, _, _, _, h⟩ | ⟨rfl, hb, _⟩ := hpost
  · omega
  replace Bt := Bt.ext hb rfl
  replace Ba := Ba.ext hb rfl
  replace Bb := Bb.ext hb rfl
  replace hw := hw.trans (hb.mono hw.size)
  clear hb
  obtain ⟨xt, yt, zt, vt⟩ := Bt.facts
  obtain ⟨xa, ya, za, va⟩ := Ba.facts
  obtain ⟨xb, yb, zb, vb⟩ := Bb.facts
  go_wp2_with fail
  refine (haw _).mono ?_
  rintro e w3 ⟨rfl, hb⟩
  clear xt yt zt vt xa ya za va xb yb zb vb
  replace Bt := Bt.ext hb rfl
  replace Ba := Ba.ext hb rfl
  replace Bb := Bb.ext hb rfl
  replace hw := hw.trans (hb.mono hw.size)
  clear hb
  obtain ⟨xt, yt, zt, vt⟩ := Bt.facts
  obtain ⟨xa, ya, za, va⟩ := Ba.facts
  obtain ⟨xb, yb, zb, vb⟩ := Bb.facts
  go_wp2
  go_ret
  exact ⟨rfl, hw⟩
attribute [local go_sem 10000] tri_neq
set_option maxRecDepth 100000 in
set_option maxHeartbeats 8000000 in
theorem mt_good (haw : ∀ w, Calls Try.prog 16 #[] w fun e w' => e = .returned (.bool true) ∧ Below w.heap.size w w') (a : Option Addr) (cap n : Nat) (L : List Tri3) (hL : Hid (L.length = n)) (hn : n ≤ 40) (hok : ∀ T ∈ L, okT T) (T : Tri3) (p q : Pt) (hT : okT T) (hk : okW (p, q)) (hx : (putRun [] L).1 = n) (w : World) (Hr : RowAt cT 6 w a L) :
    Calls Try.prog 4 #[.slice a n cap, .agg #[.int .i64 T.A.x, .int .i64 T.A.y, .int .i64 T.B.x, .int .i64 T.B.y, .int .i64 T.C.x, .int .i64 T.C.y], .agg #[.int .i64 p.x, .int .i64 p.y], .agg #[.int .i64 q.x, .int .i64 q.y]] w fun e w' => e = .returned (.bool true) ∧ Below w.heap.size w w' := by
  have hd : decide (40 < n) = false := by simpa using hn
  have cn := fun w' H => mnew_1 a cap n L hL (by omega) hok hx w' H
  have cr := fun w' H => rnew_any a cap n L hL (by omega) hok w' H
  go_enter Try.func4, Try.ntmps4
  go_wp2_with fail
  refine at_call fun W1 hW => ?_
  have Bt : Box W1 (w.heap.size) [.int .i64 T.A.x, .int .i64 T.A.y, .int .i64 T.B.x, .int .i64 T.B.y, .int .i64 T.C.x, .int .i64 T.C.y] 25 := by rw [hW]; exact ((Box.new rfl).old _).old _
  have Ba : Box W1 (w.heap.size + 1) [.int .i64 p.x, .int .i64 p.y] 23 := by rw [hW]; exact (Box.new (by simp)).old _
  have Bb : Box W1 (w.heap.size + 1 + 1) [.int .i64 q.x, .int .i64 q.y] 23 := by rw [hW]; exact Box.new (by simp)
  have hw : Below w.heap.size w W1 := by rw [hW]; go_grown
  clear hW
  refine (cn _ (Hr.ext hw rfl)).mono ?_
  rintro e w2 ⟨mb, b, rfl, Bm, Hm, _, _, hb⟩
  replace Bt := Bt.ext hb rfl
  replace Ba := Ba.ext hb rfl
  replace Bb := Bb.ext hb rfl
  replace hw := hw.trans (hb.mono hw.size)
  clear hb
  obtain ⟨xt, yt, zt, vt⟩ := Bt.facts
  obtain ⟨xa, ya, za, va⟩ := Ba.facts
  obtain ⟨xb, yb, zb, vb⟩ := Bb.facts
  go_wp2_with fail
  clear xt yt zt vt xa ya za va xb yb zb vb
  refine (cr _ (Hr.ext hw rfl)).mono ?_
  rintro e w3 hpost
  unfold RNewPost at hpost
  obtain ⟨rm, rb, rfl, Rm, Hr2, _, _, hb, _⟩ | ⟨_, _, h⟩ := hpost
  rotate_left
  · omega
  replace Bt := Bt.ext hb rfl
  replace Ba := Ba.ext hb rfl
  replace Bb := Bb.ext hb rfl
  replace Bm := Bm.ext hb rfl
  replace Hm := Hm.ext hb rfl
  replace hw := hw.trans (hb.mono hw.size)
  clear hb
  have hG : Good (putRun [] L).2 L := by
    obtain ⟨h1, h2⟩ := putRun_all L [] (by rw [hx, hL.out])
    exact ⟨by simpa using h1, Hm.nodup, h2⟩
  generalize (putRun [] L).2 = E at *
  have HG := Lib.hid hG
  clear hG hx cn cr
  have cs := fun w0 B1 H1 B2 H2 => shows_any mb b rb rm E L HG hok (by rw [hL.out]; omega) w0 B1 H1 B2 H2
  have cl := left_any mb b E p q hk
  have cl' := rleft_any rm rb E p q hk
  have ca := across_any mb b E T 0 hT
  have ch := mhas_any mb b E T hT
  have ch' := rmhas_any rm rb E T hT
  have hu : hasE E T = false → (acrE E T 0).2 = false := fun h => by unfold acrE; rw [if_neg (by rw [h]; decide)]
  generalize lftE E p q = xv at *
  generalize acrE E T 0 = yu at *
  generalize hasE E T = h at *
  obtain ⟨X, v⟩ := xv
  obtain ⟨Y, u⟩ := yu
  dsimp only at *
  have hw0 := hw
  replace hw : Below w3.heap.size w3 w3 := Below.refl _ _
  obtain ⟨xt, yt, zt, vt⟩ := Bt.facts
  obtain ⟨xa, ya, za, va⟩ := Ba.facts
  obtain ⟨xb, yb, zb, vb⟩ := Bb.facts
  go_wp2_with fail
  refine (cs _ (Bm.ext hw rfl) (Hm.ext hw rfl) (Rm.ext hw rfl) (Hr2.ext hw rfl)).mono ?_
  rintro e w21 ⟨rfl, hb⟩
  clear xt yt zt vt xa ya za va xb yb zb vb
  replace Bt := Bt.ext hb rfl
  replace Ba := Ba.ext hb rfl
  replace Bb := Bb.ext hb rfl
  replace hw := hw.trans (hb.mono hw.size)
  clear hb
  obtain ⟨xt, yt, zt, vt⟩ := Bt.facts
  obtain ⟨xa, ya, za, va⟩ := Ba.facts
  obtain ⟨xb, yb, zb, vb⟩ := Bb.facts
  go_wp2_with fail
  refine (cl _ (Bm.ext hw rfl) (Hm.ext hw rfl)).mono ?_
  rintro e w22 ⟨rfl, hb⟩
  clear xt yt zt vt xa ya za va xb yb zb vb
  replace Bt := Bt.ext hb rfl
  replace Ba := Ba.ext hb rfl
  replace Bb := Bb.ext hb rfl
  replace hw := hw.trans (hb.mono hw.size)
  clear hb
  obtain ⟨xt, yt, zt, vt⟩ := Bt.facts
  obtain ⟨xa, ya, za, va⟩ := Ba.facts
  obtain ⟨xb, yb, zb, vb⟩ := Bb.facts
  go_wp2_with fail
  clear xt yt zt vt xa ya za va xb yb zb vb
  refine at_call fun W23 hW => ?_
  obtain ⟨bkx, hbx⟩ : ∃ b, w22.heap.size = b := ⟨_, rfl⟩
  rw [hbx]
  have ltx := Bt.lt
  rw [hbx] at ltx
  have lax := Ba.lt
  rw [hbx] at lax
  have lbx := Bb.lt
  rw [hbx] at lbx
  have fx := hw.size
  rw [hbx] at fx
  have Bx : Box W23 bkx [.int .i64 X.A.x, .int .i64 X.A.y, .int .i64 X.B.x, .int .i64 X.B.y, .int .i64 X.C.x, .int .i64 X.C.y] 25 := by rw [hW]; exact Box.new hbx.symm
  replace Bt : Box W23 (w.heap.size) [.int .i64 T.A.x, .int .i64 T.A.y, .int .i64 T.B.x, .int .i64 T.B.y, .int .i64 T.C.x, .int .i64 T.C.y] 25 := by rw [hW]; exact Bt.old _
  replace Ba : Box W23 (w.heap.size + 1) [.int .i64 p.x, .int .i64 p.y] 23 := by rw [hW]; exact Ba.old _
  replace Bb : Box W23 (w.heap.size + 1 + 1) [.int .i64 q.x, .int .i64 q.y] 23 := by rw [hW]; exact Bb.old _
  replace hw : Below w3.heap.size w3 W23 := by have hl := hw.size; rw [hW]; go_grown
  clear hW hbx
  refine (cl' _ (Rm.ext hw rfl) (Hr2.ext hw rfl)).mono ?_
  rintro e w24 ⟨rfl, hb⟩
  replace Bt := Bt.ext hb rfl
  replace Ba := Ba.ext hb rfl
  replace Bb := Bb.ext hb rfl
  replace Bx := Bx.ext hb rfl
  replace hw := hw.trans (hb.mono hw.size)
  clear hb
  obtain ⟨xt, yt, zt, vt⟩ := Bt.facts
  obtain ⟨xa, ya, za, va⟩ := Ba.facts
  obtain ⟨xb, yb, zb, vb⟩ := Bb.facts
  obtain ⟨xx, yx, zx, vx⟩ := Bx.facts
  go_wp2_with fail
  clear xt yt zt vt xa ya za va xb yb zb vb xx yx zx vx
  refine at_call fun W25 hW => ?_
  obtain ⟨bky, hby⟩ : ∃ b, w24.heap.size = b := ⟨_, rfl⟩
  rw [hby]
  have lty := Bt.lt
  rw [hby] at lty
  have lay := Ba.lt
  rw [hby] at lay
  have lby := Bb.lt
  rw [hby] at lby
  have lxy := Bx.lt
  rw [hby] at lxy
  have fy := hw.size
  rw [hby] at fy
  have By : Box W25 bky [.int .i64 X.A.x, .int .i64 X.A.y, .int .i64 X.B.x, .int .i64 X.B.y, .int .i64 X.C.x, .int .i64 X.C.y] 25 := by rw [hW]; exact Box.new hby.symm
  replace Bt : Box W25 (w.heap.size) [.int .i64 T.A.x, .int .i64 T.A.y, .int .i64 T.B.x, .int .i64 T.B.y, .int .i64 T.C.x, .int .i64 T.C.y] 25 := by rw [hW]; exact Bt.old _
  replace Ba : Box W25 (w.heap.size + 1) [.int .i64 p.x, .int .i64 p.y] 23 := by rw [hW]; exact Ba.old _
  replace Bb : Box W25 (w.heap.size + 1 + 1) [.int .i64 q.x, .int .i64 q.y] 23 := by rw [hW]; exact Bb.old _
  replace Bx : Box W25 (bkx) [.int .i64 X.A.x, .int .i64 X.A.y, .int .i64 X.B.x, .int .i64 X.B.y, .int .i64 X.C.x, .int .i64 X.C.y] 25 := by rw [hW]; exact Bx.old _
  replace hw : Below w3.heap.size w3 W25 := by have hl := hw.size; rw [hW]; go_grown
  clear hW hby
  refine (ca _ (Bm.ext hw rfl) (Hm.ext hw rfl)).mono ?_
  rintro e w26 ⟨rfl, hb⟩
  replace Bt := Bt.ext hb rfl
  replace Ba := Ba.ext hb rfl
  replace Bb := Bb.ext hb rfl
  replace Bx := Bx.ext hb rfl
  replace By := By.ext hb rfl
  replace hw := hw.trans (hb.mono hw.size)
  clear hb
  obtain ⟨xt, yt, zt, vt⟩ := Bt.facts
  obtain ⟨xa, ya, za, va⟩ := Ba.facts
  obtain ⟨xb, yb, zb, vb⟩ := Bb.facts
  obtain ⟨xx, yx, zx, vx⟩ := Bx.facts
  obtain ⟨xy, yy, zy, vy⟩ := By.facts
  go_wp2_with fail
  clear xt yt zt vt xa ya za va xb yb zb vb xx yx zx vx xy yy zy vy
  refine at_world fun W27 hW => ?_
  obtain ⟨bkz, hbz⟩ : ∃ b, w26.heap.size = b := ⟨_, rfl⟩
  rw [hbz]
  have ltz := Bt.lt
  rw [hbz] at ltz
  have laz := Ba.lt
  rw [hbz] at laz
  have lbz := Bb.lt
  rw [hbz] at lbz
  have lxz := Bx.lt
  rw [hbz] at lxz
  have lyz := By.lt
  rw [hbz] at lyz
  have fz := hw.size
  rw [hbz] at fz
  have Bz : Box W27 bkz [.int .i64 Y.A.x, .int .i64 Y.A.y, .int .i64 Y.B.x, .int .i64 Y.B.y, .int .i64 Y.C.x, .int .i64 Y.C.y] 25 := by rw [hW]; exact Box.new hbz.symm
  replace Bt : Box W27 (w.heap.size) [.int .i64 T.A.x, .int .i64 T.A.y, .int .i64 T.B.x, .int .i64 T.B.y, .int .i64 T.C.x, .int .i64 T.C.y] 25 := by rw [hW]; exact Bt.old _
  replace Ba : Box W27 (w.heap.size + 1) [.int .i64 p.x, .int .i64 p.y] 23 := by rw [hW]; exact Ba.old _
  replace Bb : Box W27 (w.heap.size + 1 + 1) [.int .i64 q.x, .int .i64 q.y] 23 := by rw [hW]; exact Bb.old _
  replace Bx : Box W27 (bkx) [.int .i64 X.A.x, .int .i64 X.A.y, .int .i64 X.B.x, .int .i64 X.B.y, .int .i64 X.C.x, .int .i64 X.C.y] 25 := by rw [hW]; exact Bx.old _
  replace By : Box W27 (bky) [.int .i64 X.A.x, .int .i64 X.A.y, .int .i64 X.B.x, .int .i64 X.B.y, .int .i64 X.C.x, .int .i64 X.C.y] 25 := by rw [hW]; exact By.old _
  replace hw : Below w3.heap.size w3 W27 := by have hl := hw.size; rw [hW]; go_grown
  clear hW hbz
  have d1 : ∀ d os, Calls Try.prog 23 #[.pointer (some ⟨mb, 0, none⟩), .agg #[.int .i64 T.A.x, .int .i64 T.A.y, .int .i64 T.B.x, .int .i64 T.B.y, .int .i64 T.C.x, .int .i64 T.C.y]] (grow (redrawn W27 d) os) fun e w' => e = .returned (.bool h) ∧ Below (grow (redrawn W27 d) os).heap.size (grow (redrawn W27 d) os) w' := fun d os => ch _ ((Bm.ext hw rfl).ext (below_regrown W27 d os) rfl) ((Hm.ext hw rfl).ext (below_regrown W27 d os) rfl)
  have d2 : ∀ d os, Calls Try.prog 24 #[.pointer (some ⟨rm, 0, none⟩), .agg #[.int .i64 T.A.x, .int .i64 T.A.y, .int .i64 T.B.x, .int .i64 T.B.y, .int .i64 T.C.x, .int .i64 T.C.y]] (grow (redrawn W27 d) os) fun e w' => e = .returned (.bool h) ∧ Below (grow (redrawn W27 d) os).heap.size (grow (redrawn W27 d) os) w' := fun d os => ch' _ ((Rm.ext hw rfl).ext (below_regrown W27 d os) rfl) ((Hr2.ext hw rfl).ext (below_regrown W27 d os) rfl)
  clear cl cl' ca ch ch' cs Bm Hm Rm Hr2 Hr hok hT hk HG hL hd hn
  have tt : teq X X = true := teq_iff.2 rfl
  have hwf := hw0.trans (hw.mono hw0.size)
  clear hw0
  have hwx := hw
  clear hw
  have hw := hwf
  clear hwf hwx
  cases h with
  | true =>
    clear hu
    have gt := Bt.cells
    have ga := Ba.cells
    have gb := Bb.cells
    have gx := Bx.cells
    have gy := By.cells
    have gz := Bz.cells
    refine wp_region_tail 29 (by kernel_rfl) (by kernel_rfl) (C := fun w' => ∃ p : Regrown, w' = grow (redrawn W27 p.d) p.os) (fun w' h => regrown_of_below h) ?_
    simp only [List.take_succ_cons, List.take_zero, List.drop_succ_cons, List.drop_zero]
    repeat (first | (refine rWalk_skip (Eq.refl false) ?_; simp only [Act.put, List.setIfInBounds_toArray, List.set_cons_succ, List.set_cons_zero]) | (refine rWalk_step (fun K hK => ?_); go_simp; first | (refine hK _ ?_; clear hK K) | (apply Exists.intro; refine ⟨fun _ => ?_, hK _ ?_⟩; (first | with_reducible exact toExtD d1 _ _ | with_reducible exact toExtD d2 _ _ | with_reducible exact toExt haw _); clear hK K)))
    refine rWalk_nil ?_
    intro w28 hb
    clear gt ga gb gx gy gz
    replace Bt := Bt.ext hb rfl
    replace Ba := Ba.ext hb rfl
    replace Bb := Bb.ext hb rfl
    replace Bx := Bx.ext hb rfl
    replace By := By.ext hb rfl
    replace Bz := Bz.ext hb rfl
    replace hw := hw.trans (hb.mono hw.size)
    obtain ⟨xt, yt, zt, vt⟩ := Bt.facts
    obtain ⟨xa, ya, za, va⟩ := Ba.facts
    obtain ⟨xb, yb, zb, vb⟩ := Bb.facts
    obtain ⟨xx, yx, zx, vx⟩ := Bx.facts
    obtain ⟨xy, yy, zy, vy⟩ := By.facts
    obtain ⟨xz, yz, zz, vz⟩ := Bz.facts
    go_wp2
    go_ret
    exact ⟨rfl, hw⟩
  | false =>
    have hu := hu rfl
    subst hu
    have gt := Bt.cells
    have ga := Ba.cells
    have gb := Bb.cells
    have gx := Bx.cells
    have gy := By.cells
    have gz := Bz.cells
    refine wp_region_tail 29 (by kernel_rfl) (by kernel_rfl) (C := fun w' => ∃ p : Regrown, w' = grow (redrawn W27 p.d) p.os) (fun w' h => regrown_of_below h) ?_
    simp only [List.take_succ_cons, List.take_zero, List.drop_succ_cons, List.drop_zero]
    repeat (first | (refine rWalk_skip (Eq.refl false) ?_; simp only [Act.put, List.setIfInBounds_toArray, List.set_cons_succ, List.set_cons_zero]) | (refine rWalk_step (fun K hK => ?_); go_simp; first | (refine hK _ ?_; clear hK K) | (apply Exists.intro; refine ⟨fun _ => ?_, hK _ ?_⟩; (first | with_reducible exact toExtD d1 _ _ | with_reducible exact toExtD d2 _ _ | with_reducible exact toExt haw _); clear hK K)))
    refine rWalk_nil ?_
    intro w28 hb
    clear gt ga gb gx gy gz
    replace Bt := Bt.ext hb rfl
    replace Ba := Ba.ext hb rfl
    replace Bb := Bb.ext hb rfl
    replace Bx := Bx.ext hb rfl
    replace By := By.ext hb rfl
    replace Bz := Bz.ext hb rfl
    replace hw := hw.trans (hb.mono hw.size)
    obtain ⟨xt, yt, zt, vt⟩ := Bt.facts
    obtain ⟨xa, ya, za, va⟩ := Ba.facts
    obtain ⟨xb, yb, zb, vb⟩ := Bb.facts
    obtain ⟨xx, yx, zx, vx⟩ := Bx.facts
    obtain ⟨xy, yy, zy, vy⟩ := By.facts
    obtain ⟨xz, yz, zz, vz⟩ := Bz.facts
    go_wp2
    go_ret
    exact ⟨rfl, hw⟩
end Go.Proofs.Ytaegobkkcgheeaa
