/- Put together: MesW, MesY. -/
import Derived.Test.YtaegobkkcgheeaaRows
import Derived.Test.YtaegobkkcgheeaaPut13
import Derived.Test.YtaegobkkcgheeaaPut17
import Derived.Test.YtaegobkkcgheeaaPut6
import Derived.Test.YtaegobkkcgheeaaPut20
import Derived.Test.YtaegobkkcgheeaaPut23
import Derived.Test.YtaegobkkcgheeaaPut1
import Derived.WalkKit
import Derived.WalkSpells
import Derived.WalkLawsBesides
import Derived.Laws.Externs
import Derived.Deep.QuietTactic
import Derived.BigQuiet
import Derived.Lib.Hide
import Derived.Handy
import Derived.LoopN
import Derived.RegionTactic
import Derived.Test.YtaegobkkcgheeaaPut26
import Derived.Test.YtaegobkkcgheeaaPut27
import Derived.Test.YtaegobkkcgheeaaPut16
namespace Go.Proofs.Ytaegobkkcgheeaa
open Go.RowKit Go.Sort
attribute [local go_sem] rOper rAt rUpon cell_set sg_i64 sg_u64 alloc_cell alloc_frozen
attribute [local go_sem 10000] pt_eql pt_neq tri_eql
attribute [local irreducible] rWalk

set_option maxRecDepth 100000 in
set_option maxHeartbeats 1000000 in
theorem rowT_of_box {w : World} {g : Nat} {S : List Tri3} (h : Box w g (S.flatMap cT) 25) : RowAt cT 6 w (some ⟨g, 0, none⟩) S := fun j x hj => by
  have hl := (List.getElem?_eq_some_iff.1 hj)
  refine ⟨_, rfl, h.lt, fun i u hu => ?_⟩
  have hi : i < 6 := (List.getElem?_eq_some_iff.1 hu).1
  rw [Addr.add_lit, Addr.add_lit, h.facts.1, Nat.zero_add, flatMap_get cT_len S j i x hj hi]
  exact hu
set_option maxRecDepth 100000 in
set_option maxHeartbeats 1000000 in
theorem flip_n0 (mb b : Nat) (E : Es) (p q : Pt) (hk : okW (p, q)) (h0 : getE E (p, q) = none) (w : World) (Bm : Box w mb [.map (some b)] 65) (Hm : HoldsMap eW eT okW w b E) :
    Calls Try.prog 37 #[.pointer (some ⟨mb, 0, none⟩), .agg #[.int .i64 p.x, .int .i64 p.y], .agg #[.int .i64 q.x, .int .i64 q.y]] w fun e w' => e = .returned (.int .i64 16) ∧ Below w.heap.size w w' := by
  have cl := left_0 mb b E p q h0 hk
  clear h0
  go_enter Try.func37, Try.ntmps37
  go_wp2_with fail
  refine at_call fun W1 hW => ?_
  have Bp : Box W1 (w.heap.size) [.int .i64 p.x, .int .i64 p.y] 23 := by rw [hW]; exact (Box.new rfl).old _
  have Bq : Box W1 (w.heap.size + 1) [.int .i64 q.x, .int .i64 q.y] 23 := by rw [hW]; exact Box.new (by simp)
  have hw : Below w.heap.size w W1 := by rw [hW]; go_grown
  clear hW
  refine (cl _ (Bm.ext hw rfl) (Hm.ext hw rfl)).mono ?_
  rintro e w2 ⟨rfl, hb⟩
  replace Bp := Bp.ext hb rfl
  replace Bq := Bq.ext hb rfl
  replace hw := hw.trans (hb.mono hw.size)
  clear hb
  obtain ⟨xp, yp, zp, vp⟩ := Bp.facts
  obtain ⟨xq, yq, zq, vq⟩ := Bq.facts
  go_wp2
  go_ret
  exact ⟨rfl, by have hl := hw.size; go_grown⟩

set_option maxRecDepth 100000 in
set_option maxHeartbeats 1000000 in
theorem flip_n1 (mb b : Nat) (E : Es) (p q : Pt) (hk : okW (p, q)) (S : Tri3) (h0 : getE E (p, q) = some S) (h1 : getE E (q, p) = none) (w : World) (Bm : Box w mb [.map (some b)] 65) (Hm : HoldsMap eW eT okW w b E) :
    Calls Try.prog 37 #[.pointer (some ⟨mb, 0, none⟩), .agg #[.int .i64 p.x, .int .i64 p.y], .agg #[.int .i64 q.x, .int .i64 q.y]] w fun e w' => e = .returned (.int .i64 16) ∧ Below w.heap.size w w' := by
  have cl := left_1 mb b E p q S h0 hk
  have cr := left_0 mb b E q p h1 ⟨hk.2, hk.1⟩
  clear h0 h1
  go_enter Try.func37, Try.ntmps37
  go_wp2_with fail
  refine at_call fun W1 hW => ?_
  have Bp : Box W1 (w.heap.size) [.int .i64 p.x, .int .i64 p.y] 23 := by rw [hW]; exact (Box.new rfl).old _
  have Bq : Box W1 (w.heap.size + 1) [.int .i64 q.x, .int .i64 q.y] 23 := by rw [hW]; exact Box.new (by simp)
  have hw : Below w.heap.size w W1 := by rw [hW]; go_grown
  clear hW
  refine (cl _ (Bm.ext hw rfl) (Hm.ext hw rfl)).mono ?_
  rintro e w2 ⟨rfl, hb⟩
  replace Bp := Bp.ext hb rfl
  replace Bq := Bq.ext hb rfl
  replace hw := hw.trans (hb.mono hw.size)
  clear hb
  obtain ⟨xp, yp, zp, vp⟩ := Bp.facts
  obtain ⟨xq, yq, zq, vq⟩ := Bq.facts
  go_wp2_with fail
  clear xp yp zp vp xq yq zq vq
  refine at_call fun W3 hW => ?_
  obtain ⟨bks, hbs⟩ : ∃ b, w2.heap.size = b := ⟨_, rfl⟩
  rw [hbs]
  have lps := Bp.lt
  rw [hbs] at lps
  have lqs := Bq.lt
  rw [hbs] at lqs
  have fs := hw.size
  rw [hbs] at fs
  have Bs : Box W3 bks [.int .i64 S.A.x, .int .i64 S.A.y, .int .i64 S.B.x, .int .i64 S.B.y, .int .i64 S.C.x, .int .i64 S.C.y] 25 := by rw [hW]; exact Box.new hbs.symm
  replace Bp : Box W3 (w.heap.size) [.int .i64 p.x, .int .i64 p.y] 23 := by rw [hW]; exact Bp.old _
  replace Bq : Box W3 (w.heap.size + 1) [.int .i64 q.x, .int .i64 q.y] 23 := by rw [hW]; exact Bq.old _
  replace hw : Below w.heap.size w W3 := by have hl := hw.size; rw [hW]; go_grown
  clear hW hbs
  refine (cr _ (Bm.ext hw rfl) (Hm.ext hw rfl)).mono ?_
  rintro e w4 ⟨rfl, hb⟩
  replace Bp := Bp.ext hb rfl
  replace Bq := Bq.ext hb rfl
  replace Bs := Bs.ext hb rfl
  replace hw := hw.trans (hb.mono hw.size)
  clear hb
  obtain ⟨xp, yp, zp, vp⟩ := Bp.facts
  obtain ⟨xq, yq, zq, vq⟩ := Bq.facts
  obtain ⟨xs, ys, zs, vs⟩ := Bs.facts
  go_wp2
  go_ret
  exact ⟨rfl, by have hl := hw.size; go_grown⟩

set_option maxRecDepth 100000 in
set_option maxHeartbeats 1000000 in
theorem flip_ok (mb b : Nat) (E : Es) (p q : Pt) (hk : okW (p, q)) (S R U V : Tri3) (C D : Pt) (h0 : getE E (p, q) = some S) (h1 : getE E (q, p) = some R) (hC : apx S p q = C) (hD : apx R p q = D) (hm : meetS p q C D = 1) (hU : mk C p D = U) (hV : mk D q C = V) (hS : okT S) (hR : okT R) (hu : okT U) (hv : okT V) (ht : (takeRun E [S, R]).1 = 2) (hp : (putRun (takeRun E [S, R]).2 [U, V]).1 = 2) (w : World) (Bm : Box w mb [.map (some b)] 65) (Hm : HoldsMap eW eT okW w b E) :
    Calls Try.prog 37 #[.pointer (some ⟨mb, 0, none⟩), .agg #[.int .i64 p.x, .int .i64 p.y], .agg #[.int .i64 q.x, .int .i64 q.y]] w fun e w' => e = .returned (.int .i64 0) ∧ w.grownBy w' (some b) ∧ HoldsMap eW eT okW w' b (putRun (takeRun E [S, R]).2 [U, V]).2 := by
  have cl := left_1 mb b E p q S h0 hk
  have cr := left_1 mb b E q p R h1 ⟨hk.2, hk.1⟩
  clear h0 h1
  have ca := apex_any S p q
  have cb := apex_any R p q
  have cm := meet_any p q C D
  have cu := tmake_any C p D
  have cv := tmake_any D q C
  rw [hU] at cu
  rw [hV] at cv
  rw [hC] at ca
  rw [hD] at cb
  rw [hm] at cm
  have cp := fun a1 a2 cap1 cap2 w B H R1 R2 => replace_ok mb b E a1 a2 cap1 cap2 2 2 [S, R] [U, V] (Lib.hid rfl) (by decide) (by simpa using ⟨hS, hR⟩) (Lib.hid rfl) (by decide) (by simpa using ⟨hu, hv⟩) ht hp w B H R1 R2
  clear hU hV hC hD hm hS hR hu hv ht hp
  go_enter Try.func37, Try.ntmps37
  go_wp2_with fail
  refine at_call fun W1 hW => ?_
  have Bp : Box W1 (w.heap.size) [.int .i64 p.x, .int .i64 p.y] 23 := by rw [hW]; exact (Box.new rfl).old _
  have Bq : Box W1 (w.heap.size + 1) [.int .i64 q.x, .int .i64 q.y] 23 := by rw [hW]; exact Box.new (by simp)
  have hw : Below w.heap.size w W1 := by rw [hW]; go_grown
  clear hW
  refine (cl _ (Bm.ext hw rfl) (Hm.ext hw rfl)).mono ?_
  rintro e w2 ⟨rfl, hb⟩
  replace Bp := Bp.ext hb rfl
  replace Bq := Bq.ext hb rfl
  replace hw := hw.trans (hb.mono hw.size)
  clear hb
  obtain ⟨xp, yp, zp, vp⟩ := Bp.facts
  obtain ⟨xq, yq, zq, vq⟩ := Bq.facts
  go_wp2_with fail
  clear xp yp zp vp xq yq zq vq
  refine at_call fun W3 hW => ?_
  obtain ⟨bks, hbs⟩ : ∃ b, w2.heap.size = b := ⟨_, rfl⟩
  rw [hbs]
  have lps := Bp.lt
  rw [hbs] at lps
  have lqs := Bq.lt
  rw [hbs] at lqs
  have fs := hw.size
  rw [hbs] at fs
  have Bs : Box W3 bks [.int .i64 S.A.x, .int .i64 S.A.y, .int .i64 S.B.x, .int .i64 S.B.y, .int .i64 S.C.x, .int .i64 S.C.y] 25 := by rw [hW]; exact Box.new hbs.symm
  replace Bp : Box W3 (w.heap.size) [.int .i64 p.x, .int .i64 p.y] 23 := by rw [hW]; exact Bp.old _
  replace Bq : Box W3 (w.heap.size + 1) [.int .i64 q.x, .int .i64 q.y] 23 := by rw [hW]; exact Bq.old _
  replace hw : Below w.heap.size w W3 := by have hl := hw.size; rw [hW]; go_grown
  clear hW hbs
  refine (cr _ (Bm.ext hw rfl) (Hm.ext hw rfl)).mono ?_
  rintro e w4 ⟨rfl, hb⟩
  replace Bp := Bp.ext hb rfl
  replace Bq := Bq.ext hb rfl
  replace Bs := Bs.ext hb rfl
  replace hw := hw.trans (hb.mono hw.size)
  clear hb
  obtain ⟨xp, yp, zp, vp⟩ := Bp.facts
  obtain ⟨xq, yq, zq, vq⟩ := Bq.facts
  obtain ⟨xs, ys, zs, vs⟩ := Bs.facts
  go_wp2_with fail
  clear xp yp zp vp xq yq zq vq xs ys zs vs
  refine at_world fun W5 hW => ?_
  obtain ⟨bkr, hbr⟩ : ∃ b, w4.heap.size = b := ⟨_, rfl⟩
  rw [hbr]
  have lpr := Bp.lt
  rw [hbr] at lpr
  have lqr := Bq.lt
  rw [hbr] at lqr
  have lsr := Bs.lt
  rw [hbr] at lsr
  have fr := hw.size
  rw [hbr] at fr
  have Br : Box W5 bkr [.int .i64 R.A.x, .int .i64 R.A.y, .int .i64 R.B.x, .int .i64 R.B.y, .int .i64 R.C.x, .int .i64 R.C.y] 25 := by rw [hW]; exact Box.new hbr.symm
  replace Bp : Box W5 (w.heap.size) [.int .i64 p.x, .int .i64 p.y] 23 := by rw [hW]; exact Bp.old _
  replace Bq : Box W5 (w.heap.size + 1) [.int .i64 q.x, .int .i64 q.y] 23 := by rw [hW]; exact Bq.old _
  replace Bs : Box W5 (bks) [.int .i64 S.A.x, .int .i64 S.A.y, .int .i64 S.B.x, .int .i64 S.B.y, .int .i64 S.C.x, .int .i64 S.C.y] 25 := by rw [hW]; exact Bs.old _
  replace hw : Below w.heap.size w W5 := by have hl := hw.size; rw [hW]; go_grown
  clear hW hbr
  have gp := Bp.cells
  have gq := Bq.cells
  have gs := Bs.cells
  have gr := Br.cells
  refine wp_region_many 10 [⟨8, 10, 23, [.int .i64 0, .int .i64 0]⟩, ⟨9, 11, 23, [.int .i64 0, .int .i64 0]⟩] ?_ (by kernel_rfl) (by decide) (by decide) (by kernel_rfl) (by decide) (C := fun w' => ∃ p : Regrown, w' = grow (redrawn W5 p.d) p.os) (fun w' h => regrown_of_below h) ?_
  · simp only [List.forall_mem_cons]
    refine ⟨⟨_, rfl, rfl, rfl, rfl, fun ρ W => by simp [execOp, go_sem]⟩, ⟨_, rfl, rfl, rfl, rfl, fun ρ W => by simp [execOp, go_sem]⟩, fun _ h => (by cases h)⟩
  simp only [List.take_succ_cons, List.take_zero, List.map_cons, List.map_nil, dropIdx, List.contains_cons, List.contains_nil, Nat.reduceBEq, Nat.reduceAdd, Bool.or_false, Bool.or_true, Bool.or_self, Bool.false_eq_true, if_true, if_false]
  repeat (first | (refine rWalk_skip (Eq.refl false) ?_; simp only [Act.put, List.setIfInBounds_toArray, List.set_cons_succ, List.set_cons_zero]) | (refine rWalk_step (fun K hK => ?_); go_simp; first | (refine hK _ ?_; clear hK K) | (apply Exists.intro; refine ⟨fun _ => ?_, hK _ ?_⟩; (first | with_reducible exact toExt ca _ | with_reducible exact toExt cb _); clear hK K)))
  refine rWalk_nil ?_
  intro w6 β hL
  simp only [putD, List.drop_succ_cons, List.drop_zero]
  have qc := hL.box ⟨8, 10, 23, [.int .i64 0, .int .i64 0]⟩ (by simp) (by simp)
  simp only at qc
  have qd := hL.box ⟨9, 11, 23, [.int .i64 0, .int .i64 0]⟩ (by simp) (by simp)
  simp only at qd
  have ncd := hL.apart 10 (by simp) 11 (by simp) (by decide)
  have ndc := hL.apart 11 (by simp) 10 (by simp) (by decide)
  have hb := hL.below
  have lp := Bp.lt
  have lq := Bq.lt
  have ls := Bs.lt
  have lr := Br.lt
  clear gp gq gs gr
  replace Bp := Bp.ext hb rfl
  replace Bq := Bq.ext hb rfl
  replace Bs := Bs.ext hb rfl
  replace Br := Br.ext hb rfl
  have hw0 := hw.size
  replace hw := hw.trans (hb.mono hw.size)
  clear hb hL
  generalize β 10 = bkc at *
  generalize β 11 = bkd at *
  clear β
  obtain ⟨fc, Bc⟩ := qc
  obtain ⟨fd, Bd⟩ := qd
  simp only [Act.put]
  obtain ⟨xc, yc, zc, vc⟩ := Bc.facts
  obtain ⟨xd, yd, zd, vd⟩ := Bd.facts
  obtain ⟨xp, yp, zp, vp⟩ := Bp.facts
  obtain ⟨xq, yq, zq, vq⟩ := Bq.facts
  obtain ⟨xs, ys, zs, vs⟩ := Bs.facts
  obtain ⟨xr, yr, zr, vr⟩ := Br.facts
  have epbkc : (w.heap.size = bkc) = False := by simp; omega
  have epbkc' : (bkc = w.heap.size) = False := by simp; omega
  have epbkd : (w.heap.size = bkd) = False := by simp; omega
  have epbkd' : (bkd = w.heap.size) = False := by simp; omega
  have eqbkc : (w.heap.size + 1 = bkc) = False := by simp; omega
  have eqbkc' : (bkc = w.heap.size + 1) = False := by simp; omega
  have eqbkd : (w.heap.size + 1 = bkd) = False := by simp; omega
  have eqbkd' : (bkd = w.heap.size + 1) = False := by simp; omega
  have esbkc : (bks = bkc) = False := by simp; omega
  have esbkc' : (bkc = bks) = False := by simp; omega
  have esbkd : (bks = bkd) = False := by simp; omega
  have esbkd' : (bkd = bks) = False := by simp; omega
  have erbkc : (bkr = bkc) = False := by simp; omega
  have erbkc' : (bkc = bkr) = False := by simp; omega
  have erbkd : (bkr = bkd) = False := by simp; omega
  have erbkd' : (bkd = bkr) = False := by simp; omega
  have ebkcbkd : (bkc = bkd) = False := by simp; omega
  have ebkdbkc : (bkd = bkc) = False := by simp; omega
  go_wp2_with fail
  refine at_call fun W7 hW => ?_
  have Cp : Box W7 (w.heap.size) [.int .i64 p.x, .int .i64 p.y] 23 := by rw [hW]; exact ((((Bp.set_ne ⟨bkc, 0, none⟩ (.int .i64 C.x) (by first | assumption | (show bkc ≠ _; omega))).set_ne ⟨bkc, 1, none⟩ (.int .i64 C.y) (by first | assumption | (show bkc ≠ _; omega))).set_ne ⟨bkd, 0, none⟩ (.int .i64 D.x) (by first | assumption | (show bkd ≠ _; omega))).set_ne ⟨bkd, 1, none⟩ (.int .i64 D.y) (by first | assumption | (show bkd ≠ _; omega)))
  have Cq : Box W7 (w.heap.size + 1) [.int .i64 q.x, .int .i64 q.y] 23 := by rw [hW]; exact ((((Bq.set_ne ⟨bkc, 0, none⟩ (.int .i64 C.x) (by first | assumption | (show bkc ≠ _; omega))).set_ne ⟨bkc, 1, none⟩ (.int .i64 C.y) (by first | assumption | (show bkc ≠ _; omega))).set_ne ⟨bkd, 0, none⟩ (.int .i64 D.x) (by first | assumption | (show bkd ≠ _; omega))).set_ne ⟨bkd, 1, none⟩ (.int .i64 D.y) (by first | assumption | (show bkd ≠ _; omega)))
  have Cs : Box W7 (bks) [.int .i64 S.A.x, .int .i64 S.A.y, .int .i64 S.B.x, .int .i64 S.B.y, .int .i64 S.C.x, .int .i64 S.C.y] 25 := by rw [hW]; exact ((((Bs.set_ne ⟨bkc, 0, none⟩ (.int .i64 C.x) (by first | assumption | (show bkc ≠ _; omega))).set_ne ⟨bkc, 1, none⟩ (.int .i64 C.y) (by first | assumption | (show bkc ≠ _; omega))).set_ne ⟨bkd, 0, none⟩ (.int .i64 D.x) (by first | assumption | (show bkd ≠ _; omega))).set_ne ⟨bkd, 1, none⟩ (.int .i64 D.y) (by first | assumption | (show bkd ≠ _; omega)))
  have Cr : Box W7 (bkr) [.int .i64 R.A.x, .int .i64 R.A.y, .int .i64 R.B.x, .int .i64 R.B.y, .int .i64 R.C.x, .int .i64 R.C.y] 25 := by rw [hW]; exact ((((Br.set_ne ⟨bkc, 0, none⟩ (.int .i64 C.x) (by first | assumption | (show bkc ≠ _; omega))).set_ne ⟨bkc, 1, none⟩ (.int .i64 C.y) (by first | assumption | (show bkc ≠ _; omega))).set_ne ⟨bkd, 0, none⟩ (.int .i64 D.x) (by first | assumption | (show bkd ≠ _; omega))).set_ne ⟨bkd, 1, none⟩ (.int .i64 D.y) (by first | assumption | (show bkd ≠ _; omega)))
  have Cc : Box W7 (bkc) [.int .i64 C.x, .int .i64 C.y] 23 := by rw [hW]; exact ((((Bc.set 0 (.int .i64 C.x)).set 1 (.int .i64 C.y)).set_ne ⟨bkd, 0, none⟩ (.int .i64 D.x) (by first | assumption | (show bkd ≠ _; omega))).set_ne ⟨bkd, 1, none⟩ (.int .i64 D.y) (by first | assumption | (show bkd ≠ _; omega)))
  have Cd : Box W7 (bkd) [.int .i64 D.x, .int .i64 D.y] 23 := by rw [hW]; exact ((((Bd.set_ne ⟨bkc, 0, none⟩ (.int .i64 C.x) (by first | assumption | (show bkc ≠ _; omega))).set_ne ⟨bkc, 1, none⟩ (.int .i64 C.y) (by first | assumption | (show bkc ≠ _; omega))).set 0 (.int .i64 D.x)).set 1 (.int .i64 D.y))
  replace hw : Below w.heap.size w W7 := by have hl := hw.size; rw [hW]; go_grown
  clear xc yc zc vc xd yd zd vd
  clear xp yp zp vp xq yq zq vq xs ys zs vs xr yr zr vr epbkc epbkc' epbkd epbkd' eqbkc eqbkc' eqbkd eqbkd' esbkc esbkc' esbkd esbkd' erbkc erbkc' erbkd erbkd' ebkcbkd ebkdbkc
  clear hW Bp Bq Bs Br Bc Bd
  have Bp := Cp
  have Bq := Cq
  have Bs := Cs
  have Br := Cr
  have Bc := Cc
  have Bd := Cd
  clear Cp Cq Cs Cr Cc Cd
  refine (cm _).mono ?_
  rintro e w8 ⟨rfl, hb⟩
  replace Bp := Bp.ext hb rfl
  replace Bq := Bq.ext hb rfl
  replace Bs := Bs.ext hb rfl
  replace Br := Br.ext hb rfl
  replace Bc := Bc.ext hb rfl
  replace Bd := Bd.ext hb rfl
  replace hw := hw.trans (hb.mono hw.size)
  clear hb
  obtain ⟨xp, yp, zp, vp⟩ := Bp.facts
  obtain ⟨xq, yq, zq, vq⟩ := Bq.facts
  obtain ⟨xs, ys, zs, vs⟩ := Bs.facts
  obtain ⟨xr, yr, zr, vr⟩ := Br.facts
  obtain ⟨xc, yc, zc, vc⟩ := Bc.facts
  obtain ⟨xd, yd, zd, vd⟩ := Bd.facts
  go_wp2_with fail
  refine (cu _).mono ?_
  rintro e w9 ⟨rfl, hb⟩
  clear xp yp zp vp xq yq zq vq xs ys zs vs xr yr zr vr xc yc zc vc xd yd zd vd
  replace Bp := Bp.ext hb rfl
  replace Bq := Bq.ext hb rfl
  replace Bs := Bs.ext hb rfl
  replace Br := Br.ext hb rfl
  replace Bc := Bc.ext hb rfl
  replace Bd := Bd.ext hb rfl
  replace hw := hw.trans (hb.mono hw.size)
  clear hb
  obtain ⟨xp, yp, zp, vp⟩ := Bp.facts
  obtain ⟨xq, yq, zq, vq⟩ := Bq.facts
  obtain ⟨xs, ys, zs, vs⟩ := Bs.facts
  obtain ⟨xr, yr, zr, vr⟩ := Br.facts
  obtain ⟨xc, yc, zc, vc⟩ := Bc.facts
  obtain ⟨xd, yd, zd, vd⟩ := Bd.facts
  go_wp2_with fail
  clear xp yp zp vp xq yq zq vq xs ys zs vs xr yr zr vr xc yc zc vc xd yd zd vd
  refine at_call fun W10 hW => ?_
  obtain ⟨bku, hbu⟩ : ∃ b, w9.heap.size = b := ⟨_, rfl⟩
  rw [hbu]
  have lpu := Bp.lt
  rw [hbu] at lpu
  have lqu := Bq.lt
  rw [hbu] at lqu
  have lsu := Bs.lt
  rw [hbu] at lsu
  have lru := Br.lt
  rw [hbu] at lru
  have lcu := Bc.lt
  rw [hbu] at lcu
  have ldu := Bd.lt
  rw [hbu] at ldu
  have fu := hw.size
  rw [hbu] at fu
  have Bu : Box W10 bku [.int .i64 U.A.x, .int .i64 U.A.y, .int .i64 U.B.x, .int .i64 U.B.y, .int .i64 U.C.x, .int .i64 U.C.y] 25 := by rw [hW]; exact Box.new hbu.symm
  replace Bp : Box W10 (w.heap.size) [.int .i64 p.x, .int .i64 p.y] 23 := by rw [hW]; exact Bp.old _
  replace Bq : Box W10 (w.heap.size + 1) [.int .i64 q.x, .int .i64 q.y] 23 := by rw [hW]; exact Bq.old _
  replace Bs : Box W10 (bks) [.int .i64 S.A.x, .int .i64 S.A.y, .int .i64 S.B.x, .int .i64 S.B.y, .int .i64 S.C.x, .int .i64 S.C.y] 25 := by rw [hW]; exact Bs.old _
  replace Br : Box W10 (bkr) [.int .i64 R.A.x, .int .i64 R.A.y, .int .i64 R.B.x, .int .i64 R.B.y, .int .i64 R.C.x, .int .i64 R.C.y] 25 := by rw [hW]; exact Br.old _
  replace Bc : Box W10 (bkc) [.int .i64 C.x, .int .i64 C.y] 23 := by rw [hW]; exact Bc.old _
  replace Bd : Box W10 (bkd) [.int .i64 D.x, .int .i64 D.y] 23 := by rw [hW]; exact Bd.old _
  replace hw : Below w.heap.size w W10 := by have hl := hw.size; rw [hW]; go_grown
  clear hW hbu
  refine (cv _).mono ?_
  rintro e w11 ⟨rfl, hb⟩
  replace Bp := Bp.ext hb rfl
  replace Bq := Bq.ext hb rfl
  replace Bs := Bs.ext hb rfl
  replace Br := Br.ext hb rfl
  replace Bc := Bc.ext hb rfl
  replace Bd := Bd.ext hb rfl
  replace Bu := Bu.ext hb rfl
  replace hw := hw.trans (hb.mono hw.size)
  clear hb
  obtain ⟨xp, yp, zp, vp⟩ := Bp.facts
  obtain ⟨xq, yq, zq, vq⟩ := Bq.facts
  obtain ⟨xs, ys, zs, vs⟩ := Bs.facts
  obtain ⟨xr, yr, zr, vr⟩ := Br.facts
  obtain ⟨xc, yc, zc, vc⟩ := Bc.facts
  obtain ⟨xd, yd, zd, vd⟩ := Bd.facts
  obtain ⟨xu, yu, zu, vu⟩ := Bu.facts
  have es4 : (bks = w11.heap.size + 1) = False := by have := Bs.lt; simp; omega
  have es8 : (bks = w11.heap.size + 1 + 1) = False := by have := Bs.lt; simp; omega
  have er4 : (bkr = w11.heap.size + 1) = False := by have := Br.lt; simp; omega
  have er8 : (bkr = w11.heap.size + 1 + 1) = False := by have := Br.lt; simp; omega
  have eu4 : (bku = w11.heap.size + 1) = False := by have := Bu.lt; simp; omega
  have eu8 : (bku = w11.heap.size + 1 + 1) = False := by have := Bu.lt; simp; omega
  go_wp2_with fail
  have row : ∀ {w : World} {g : Nat} {X Y : Tri3}, Box w g (cT X ++ cT Y) 25 → RowAt cT 6 w (some ⟨g, 0, none⟩) [X, Y] := fun {w g X Y} h => rowT_of_box (S := [X, Y]) (by simpa using h)
  refine at_call fun W12 hW => ?_
  have R1 : RowAt cT 6 W12 (some ⟨w11.heap.size + 1, 0, none⟩) [S, R] := row (by rw [hW]; exact (Box.new (by simp)).old _)
  have R2 : RowAt cT 6 W12 (some ⟨w11.heap.size + 1 + 1, 0, none⟩) [U, V] := row (by rw [hW]; exact Box.new (by simp))
  replace hw : Below w.heap.size w W12 := by have hl := hw.size; rw [hW]; go_grown
  clear hW row
  have hlt := Hm.lt
  refine (cp _ _ _ _ _ (Bm.ext hw rfl) (Hm.ext hw rfl) R1 R2).mono ?_
  rintro e w13 ⟨rfl, hg, H2⟩
  replace hg := below_then hw hg
  clear xp yp zp vp xq yq zq vq xs ys zs vs xr yr zr vr xc yc zc vc xd yd zd vd xu yu zu vu
  go_wp2
  go_ret
  exact ⟨rfl, hg, H2⟩

end Go.Proofs.Ytaegobkkcgheeaa

namespace Go.Proofs.Ytaegobkkcgheeaa
open Go.RowKit Go.Sort
attribute [local go_sem] rOper rAt rUpon cell_set sg_i64 sg_u64 alloc_cell alloc_frozen
attribute [local go_sem 10000] pt_eql pt_neq tri_eql
attribute [local irreducible] rWalk

set_option maxRecDepth 100000 in
set_option maxHeartbeats 1000000 in
theorem nlen  (w : World) :
    Calls Try.prog 38 #[.pointer none] w fun e w' => e = .returned (.int .i64 0) ∧ Below w.heap.size w w' := by
  go_enter Try.func38, Try.ntmps38
  go_wp2_with fail
  go_ret
  exact ⟨rfl, Below.refl _ _⟩

set_option maxRecDepth 100000 in
set_option maxHeartbeats 1000000 in
theorem nleft (p q : Pt) (w : World) :
    Calls Try.prog 20 #[.pointer none, .agg #[.int .i64 p.x, .int .i64 p.y], .agg #[.int .i64 q.x, .int .i64 q.y]] w fun e w' => e = .returned (.tuple #[.agg #[.int .i64 0, .int .i64 0, .int .i64 0, .int .i64 0, .int .i64 0, .int .i64 0], .bool false]) ∧ Below w.heap.size w w' := by
  go_enter Try.func20, Try.ntmps20
  go_wp2_with fail
  refine bodyPost_ret (v := .tuple #[.agg #[.int .i64 0, .int .i64 0, .int .i64 0, .int .i64 0, .int .i64 0, .int .i64 0], .bool false]) (by simp [results, Try.results20, go_sem]) rfl ⟨rfl, by go_grown⟩

set_option maxRecDepth 100000 in
set_option maxHeartbeats 1000000 in
theorem nhas (T : Tri3) (w : World) :
    Calls Try.prog 23 #[.pointer none, .agg #[.int .i64 T.A.x, .int .i64 T.A.y, .int .i64 T.B.x, .int .i64 T.B.y, .int .i64 T.C.x, .int .i64 T.C.y]] w fun e w' => e = .returned (.bool false) ∧ Below w.heap.size w w' := by
  go_enter Try.func23, Try.ntmps23
  go_wp2_with fail
  refine at_call fun W1 hW => ?_
  have Bt : Box W1 (w.heap.size) [.int .i64 T.A.x, .int .i64 T.A.y, .int .i64 T.B.x, .int .i64 T.B.y, .int .i64 T.C.x, .int .i64 T.C.y] 25 := by rw [hW]; exact Box.new rfl
  have hw : Below w.heap.size w W1 := by rw [hW]; go_grown
  clear hW
  refine (nleft T.A T.B _).mono ?_
  rintro e w2 ⟨rfl, hb⟩
  replace Bt := Bt.ext hb rfl
  replace hw := hw.trans (hb.mono hw.size)
  clear hb
  obtain ⟨xt, yt, zt, vt⟩ := Bt.facts
  go_wp2
  go_ret
  exact ⟨rfl, by have hl := hw.size; go_grown⟩

set_option maxRecDepth 100000 in
set_option maxHeartbeats 1000000 in
theorem nflip (p q : Pt) (w : World) :
    Calls Try.prog 37 #[.pointer none, .agg #[.int .i64 p.x, .int .i64 p.y], .agg #[.int .i64 q.x, .int .i64 q.y]] w fun e w' => e = .returned (.int .i64 16) ∧ Below w.heap.size w w' := by
  go_enter Try.func37, Try.ntmps37
  go_wp2_with fail
  refine at_call fun W1 hW => ?_
  have Bp : Box W1 (w.heap.size) [.int .i64 p.x, .int .i64 p.y] 23 := by rw [hW]; exact (Box.new rfl).old _
  have Bq : Box W1 (w.heap.size + 1) [.int .i64 q.x, .int .i64 q.y] 23 := by rw [hW]; exact Box.new (by simp)
  have hw : Below w.heap.size w W1 := by rw [hW]; go_grown
  clear hW
  refine (nleft p q _).mono ?_
  rintro e w2 ⟨rfl, hb⟩
  replace Bp := Bp.ext hb rfl
  replace Bq := Bq.ext hb rfl
  replace hw := hw.trans (hb.mono hw.size)
  clear hb
  obtain ⟨xp, yp, zp, vp⟩ := Bp.facts
  obtain ⟨xq, yq, zq, vq⟩ := Bq.facts
  go_wp2
  go_ret
  exact ⟨rfl, by have hl := hw.size; go_grown⟩

abbrev awZ : Tri3 := ⟨⟨0, 0⟩, ⟨0, 0⟩, ⟨0, 0⟩⟩
abbrev awS : Tri3 := ⟨⟨0, 0⟩, ⟨1, 0⟩, ⟨1, 1⟩⟩
abbrev awT : Tri3 := ⟨⟨0, 0⟩, ⟨1, 1⟩, ⟨0, 1⟩⟩
abbrev awU : Tri3 := mk ⟨0, 1⟩ ⟨0, 0⟩ ⟨1, 0⟩
abbrev awV : Tri3 := mk ⟨1, 0⟩ ⟨1, 1⟩ ⟨0, 1⟩
def awE : Es := (putRun [] [awT, awS]).2
def awF : Es := (putRun (takeRun awE [awT, awS]).2 [awU, awV]).2
theorem aw_f1 : (putRun [] [awT, awS]).1 = 2 := by decide
theorem aw_f2 : (putRun [] [awS, awS]).1 < 2 := by decide
theorem aw_f3 : (putRun [] [awZ]).1 < 1 := by decide
theorem aw_f4 : srt cmpT (heads (fun _ => true) awE) = [awS, awT] := by
  unfold srt; rw [show heads (fun _ => true) awE = [awS, awT] by kernel_rfl]; exact List.mergeSort_of_pairwise (by decide)
theorem aw_f5 : acrE awE awS 2 = (awT, true) := by kernel_rfl
theorem aw_f6 : acrE awE awS 0 = (awZ, false) := by kernel_rfl
theorem aw_f7 : getE awE (⟨0, 0⟩, ⟨1, 1⟩) = some awT := by kernel_rfl
theorem aw_f8 : getE awE (⟨1, 1⟩, ⟨0, 0⟩) = some awS := by kernel_rfl
theorem aw_f9 : apx awT ⟨0, 0⟩ ⟨1, 1⟩ = ⟨0, 1⟩ := by kernel_rfl
theorem aw_f10 : apx awS ⟨0, 0⟩ ⟨1, 1⟩ = ⟨1, 0⟩ := by kernel_rfl
theorem aw_f11 : meetS ⟨0, 0⟩ ⟨1, 1⟩ ⟨0, 1⟩ ⟨1, 0⟩ = 1 := by kernel_rfl
theorem aw_f12 : (takeRun awE [awT, awS]).1 = 2 := by kernel_rfl
theorem aw_f13 : (putRun (takeRun awE [awT, awS]).2 [awU, awV]).1 = 2 := by kernel_rfl
theorem aw_f14 : getE awF (⟨0, 0⟩, ⟨1, 1⟩) = none := by kernel_rfl
theorem aw_f15 : hasE awF awS = false := by kernel_rfl
theorem aw_f16 : awF.length = 3 * 2 := by kernel_rfl
theorem aw_f17 : awE.length ≤ 1000000 := by rw [show awE.length = 6 by kernel_rfl]; decide
theorem aw_f18 {Mz : List Pt} (h : Rising cmpP Mz) (hm : ∀ p, p ∈ Mz ↔ p ∈ froms awF) : Mz.length = 4 := by
  have e : Mz = [⟨0, 0⟩, ⟨0, 1⟩, ⟨1, 0⟩, ⟨1, 1⟩] := rising_unique wholeP h (by unfold Rising; decide) (fun p => by
    rw [hm p, show froms awF = froms awF from rfl]
    constructor
    · exact (show ∀ x ∈ froms awF, x ∈ ([⟨0, 0⟩, ⟨0, 1⟩, ⟨1, 0⟩, ⟨1, 1⟩] : List Pt) by decide) p
    · exact (show ∀ x ∈ ([⟨0, 0⟩, ⟨0, 1⟩, ⟨1, 0⟩, ⟨1, 1⟩] : List Pt), x ∈ froms awF by decide) p)
  rw [e]; rfl
end Go.Proofs.Ytaegobkkcgheeaa
