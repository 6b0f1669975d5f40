/- Put together: MesF, MesU. -/
import Derived.Test.YtaegobkkcgheeaaRows
import Derived.Test.YtaegobkkcgheeaaPut13
import Derived.Test.YtaegobkkcgheeaaPut15
import Derived.Test.YtaegobkkcgheeaaPut1
import Derived.WalkKit
import Derived.WalkSpells
import Derived.WalkLawsBesides
import Derived.Laws.Externs
import Derived.Deep.QuietTactic
import Derived.BigQuiet
import Derived.Lib.Hide
import Derived.Handy
import Derived.Maps.OwnSet
import Derived.Maps.OwnOps
import Derived.LoopN
import Derived.RegionTactic
namespace Go.Proofs.Ytaegobkkcgheeaa
open Go.RowKit Go.Sort
attribute [local go_sem] rOper rAt rUpon cell_set sg_i64 sg_u64 alloc_cell alloc_frozen
attribute [local go_sem 10000] pt_eql pt_neq tri_eql
attribute [local irreducible] rWalk

theorem mk_map (n : Int) (w : World) : (Instr.makeMap 63 (some (.int .i64 n))).run Try.prog w = .ok (.map (some w.heap.size)) (w.alloc (.map #[] 0)) := by
  unfold Instr.makeMap
  simp [asIntOf, go_sem]
attribute [local go_sem] mk_map map_nil
theorem HoldsMap.box {w : World} {b : Nat} {E : Es} (H : HoldsMap eW eT okW w b E) {cs : List Value} {T : TypeId} : HoldsMap eW eT okW (w.alloc (.cells cs.toArray T)) b E := H.alloc _
set_option maxRecDepth 100000 in
set_option maxHeartbeats 1000000 in
theorem mnew_1 (a : Option Addr) (cap n : Nat) (L : List Tri3) (hn : Hid (L.length = n)) (hn1 : n ≤ 1000000) (hok : ∀ T ∈ L, okT T) (hx : (putRun [] L).1 = n) (w : World) (Hr : RowAt cT 6 w a L) :
    Calls Try.prog 17 #[.slice a n cap] w fun e w' => ∃ mb b, e = .returned (.tuple #[.pointer (some ⟨mb, 0, none⟩), .int .i64 0]) ∧ Box w' mb [.map (some b)] 65 ∧ HoldsMap eW eT okW w' b (putRun [] L).2 ∧ w.heap.size ≤ b ∧ w.heap.size ≤ mb ∧ Below w.heap.size w w' := by
  have cp := fun w' B H R => mput_any (w.heap.size + 1) w.heap.size [] a cap n L hn hn1 hok w' B H R
  obtain ⟨r, E, hr⟩ : ∃ r E, putRun [] L = (r, E) := ⟨_, _, rfl⟩
  rw [hr] at cp hx
  dsimp only at cp hx
  have HR := Lib.hid hr
  clear hr
  subst hx
  have hd : decide ((r : Int) < (r : Int)) = false := by simp
  go_enter Try.func17, Try.ntmps17
  go_wp2_with fail
  refine at_call fun W1 hW => ?_
  have BM : Box W1 (w.heap.size + 1) [.map (some w.heap.size)] 65 := by rw [hW]; exact Box.new (by simp)
  have HM : HoldsMap eW eT okW W1 w.heap.size ([] : Es) := by rw [hW]; exact (HoldsMap.made w).alloc _
  have hw : Below w.heap.size w W1 := by rw [hW]; go_grown
  clear hW
  refine (cp _ BM HM (Hr.ext hw rfl)).mono ?_
  rintro e w2 ⟨rfl, hg, H2⟩
  have B2 := BM.turn HM hg
  replace hw := below_grown hw hg hw.size (Nat.le_refl _)
  clear hg HM BM
  go_wp2
  go_ret2
  exact ⟨_, _, rfl, B2, by rw [HR.out]; exact H2, Nat.le_refl _, by omega, hw⟩
set_option maxRecDepth 100000 in
set_option maxHeartbeats 1000000 in
theorem mnew_0 (a : Option Addr) (cap n : Nat) (L : List Tri3) (hn : Hid (L.length = n)) (hn1 : n ≤ 1000000) (hok : ∀ T ∈ L, okT T) (hx : (putRun [] L).1 < n) (w : World) (Hr : RowAt cT 6 w a L) :
    Calls Try.prog 17 #[.slice a n cap] w fun e w' => e = .returned (.tuple #[.pointer none, .int .i64 2]) ∧ Below w.heap.size w w' := by
  have cp := fun w' B H R => mput_any (w.heap.size + 1) w.heap.size [] a cap n L hn hn1 hok w' B H R
  obtain ⟨r, E, hr⟩ : ∃ r E, putRun [] L = (r, E) := ⟨_, _, rfl⟩
  rw [hr] at cp hx
  dsimp only at cp hx
  have HR := Lib.hid hr
  clear hr
  have hd : decide (r < n) = true := by simp; omega
  clear hx
  go_enter Try.func17, Try.ntmps17
  go_wp2_with fail
  refine at_call fun W1 hW => ?_
  have BM : Box W1 (w.heap.size + 1) [.map (some w.heap.size)] 65 := by rw [hW]; exact Box.new (by simp)
  have HM : HoldsMap eW eT okW W1 w.heap.size ([] : Es) := by rw [hW]; exact (HoldsMap.made w).alloc _
  have hw : Below w.heap.size w W1 := by rw [hW]; go_grown
  clear hW
  refine (cp _ BM HM (Hr.ext hw rfl)).mono ?_
  rintro e w2 ⟨rfl, hg, H2⟩
  have B2 := BM.turn HM hg
  replace hw := below_grown hw hg hw.size (Nat.le_refl _)
  clear hg HM BM
  go_wp2
  go_ret2
  exact ⟨rfl, hw⟩
set_option maxRecDepth 100000 in
theorem mlen_any (mb b : Nat) (E : Es) (k : Nat) (hE : Hid (E.length = 3 * k)) (hk : k ≤ 1000000) (w : World) (Bm : Box w mb [.map (some b)] 65) (Hm : HoldsMap eW eT okW w b E) :
    Calls Try.prog 38 #[.pointer (some ⟨mb, 0, none⟩)] w fun e w' => e = .returned (.int .i64 k) ∧ Below w.heap.size w w' := by
  obtain ⟨xm, ym, zm, vm⟩ := Bm.facts
  go_enter Try.func38, Try.ntmps38
  go_wp2_with (at_len; refine wpList_mlen _ rfl _ rfl kvM rfl Hm ?_; rw [hE.out])
  go_ret
  exact ⟨ret_int (by first | omega | (push_cast; omega)), Below.refl _ _⟩
theorem okP_crn {T : Tri3} (h : okT T) (i : Int) : okP (crn T i) := by
  unfold crn; split
  · exact h.1
  · split
    · exact h.2.1
    · exact h.2.2
set_option maxRecDepth 100000 in
set_option maxHeartbeats 1000000 in
theorem across_1 (mb b : Nat) (E : Es) (T : Tri3) (i : Int) (hk : okT T) (hh : hasE E T = true) (w : World) (Bm : Box w mb [.map (some b)] 65) (Hm : HoldsMap eW eT okW w b E) :
    Calls Try.prog 22 #[.pointer (some ⟨mb, 0, none⟩), .agg #[.int .i64 T.A.x, .int .i64 T.A.y, .int .i64 T.B.x, .int .i64 T.B.y, .int .i64 T.C.x, .int .i64 T.C.y], .int .i64 i] w fun e w' => e = .returned (.tuple #[eT (lftE E (crn T (i + 1)) (crn T i)).1, .bool (lftE E (crn T (i + 1)) (crn T i)).2]) ∧ Below w.heap.size w w' := by
  have ch := mhas_any mb b E T hk
  rw [hh] at ch
  clear hh
  have cl := left_any mb b E (crn T (i + 1)) (crn T i) ⟨okP_crn hk _, okP_crn hk _⟩
  have ce := edge_any T i
  generalize lftE E (crn T (i + 1)) (crn T i) = sv at *
  obtain ⟨S, v⟩ := sv
  dsimp only at *
  generalize crn T i = P at *
  generalize crn T (i + 1) = Q at *
  go_enter Try.func22, Try.ntmps22
  go_wp2_with fail
  refine at_call fun W1 hW => ?_
  have Bt : Box W1 (w.heap.size) [.int .i64 T.A.x, .int .i64 T.A.y, .int .i64 T.B.x, .int .i64 T.B.y, .int .i64 T.C.x, .int .i64 T.C.y] 25 := by rw [hW]; exact (Box.new rfl).old _
  have Br : Box W1 (w.heap.size + 1) [.int .i64 0, .int .i64 0, .int .i64 0, .int .i64 0, .int .i64 0, .int .i64 0] 25 := by rw [hW]; exact Box.new (by simp)
  have hw : Below w.heap.size w W1 := by rw [hW]; go_grown
  clear hW
  refine (ch _ (Bm.ext hw rfl) (Hm.ext hw rfl)).mono ?_
  rintro e w2 ⟨rfl, hb⟩
  replace Bt := Bt.ext hb rfl
  replace Br := Br.ext hb rfl
  replace hw := hw.trans (hb.mono hw.size)
  clear hb
  obtain ⟨xt, yt, zt, vt⟩ := Bt.facts
  obtain ⟨xr, yr, zr, vr⟩ := Br.facts
  go_wp2_with fail
  refine (ce _).mono ?_
  rintro e w3 ⟨rfl, hb⟩
  clear xt yt zt vt xr yr zr vr
  replace Bt := Bt.ext hb rfl
  replace Br := Br.ext hb rfl
  replace hw := hw.trans (hb.mono hw.size)
  clear hb
  obtain ⟨xt, yt, zt, vt⟩ := Bt.facts
  obtain ⟨xr, yr, zr, vr⟩ := Br.facts
  go_wp2_with fail
  refine at_call fun W4 hW => ?_
  obtain ⟨bkp, hbp⟩ : ∃ b, w3.heap.size = b := ⟨_, rfl⟩
  rw [hbp]
  have ltp := Bt.lt
  rw [hbp] at ltp
  have lrp := Br.lt
  rw [hbp] at lrp
  have fp := hw.size
  rw [hbp] at fp
  have Bp : Box W4 (bkp) [.int .i64 P.x, .int .i64 P.y] 23 := by rw [hW, ← hbp]; exact (Box.new rfl).old _
  have Bq : Box W4 (bkp + 1) [.int .i64 Q.x, .int .i64 Q.y] 23 := by rw [hW, ← hbp]; exact Box.new (by simp)
  replace Bt : Box W4 (w.heap.size) [.int .i64 T.A.x, .int .i64 T.A.y, .int .i64 T.B.x, .int .i64 T.B.y, .int .i64 T.C.x, .int .i64 T.C.y] 25 := by rw [hW]; exact ((Bt).old _).old _
  replace Br : Box W4 (w.heap.size + 1) [.int .i64 0, .int .i64 0, .int .i64 0, .int .i64 0, .int .i64 0, .int .i64 0] 25 := by rw [hW]; exact ((Br).old _).old _
  replace hw : Below w.heap.size w W4 := by have hl := hw.size; rw [hW]; go_grown
  clear hW hbp
  refine (cl _ (Bm.ext hw rfl) (Hm.ext hw rfl)).mono ?_
  rintro e w5 ⟨rfl, hb⟩
  clear xt yt zt vt xr yr zr vr
  replace Bt := Bt.ext hb rfl
  replace Br := Br.ext hb rfl
  replace Bp := Bp.ext hb rfl
  replace Bq := Bq.ext hb rfl
  replace hw := hw.trans (hb.mono hw.size)
  clear hb
  obtain ⟨xt, yt, zt, vt⟩ := Bt.facts
  obtain ⟨xr, yr, zr, vr⟩ := Br.facts
  obtain ⟨xp, yp, zp, vp⟩ := Bp.facts
  obtain ⟨xq, yq, zq, vq⟩ := Bq.facts
  go_wp2_with fail
  refine bodyPost_ret (v := .tuple #[.agg #[.int .i64 S.A.x, .int .i64 S.A.y, .int .i64 S.B.x, .int .i64 S.B.y, .int .i64 S.C.x, .int .i64 S.C.y], .bool v]) (by simp [results, Try.results22, go_sem, xr]) rfl ⟨rfl, by have hl := hw.size; go_grown⟩

set_option maxRecDepth 100000 in
set_option maxHeartbeats 1000000 in
theorem across_0 (mb b : Nat) (E : Es) (T : Tri3) (i : Int) (hk : okT T) (hh : hasE E T = false) (w : World) (Bm : Box w mb [.map (some b)] 65) (Hm : HoldsMap eW eT okW w b E) :
    Calls Try.prog 22 #[.pointer (some ⟨mb, 0, none⟩), .agg #[.int .i64 T.A.x, .int .i64 T.A.y, .int .i64 T.B.x, .int .i64 T.B.y, .int .i64 T.C.x, .int .i64 T.C.y], .int .i64 i] w fun e w' => e = .returned (.tuple #[.agg #[.int .i64 0, .int .i64 0, .int .i64 0, .int .i64 0, .int .i64 0, .int .i64 0], .bool false]) ∧ Below w.heap.size w w' := by
  have ch := mhas_any mb b E T hk
  rw [hh] at ch
  clear hh
  go_enter Try.func22, Try.ntmps22
  go_wp2_with fail
  refine at_call fun W1 hW => ?_
  have Bt : Box W1 (w.heap.size) [.int .i64 T.A.x, .int .i64 T.A.y, .int .i64 T.B.x, .int .i64 T.B.y, .int .i64 T.C.x, .int .i64 T.C.y] 25 := by rw [hW]; exact (Box.new rfl).old _
  have Br : Box W1 (w.heap.size + 1) [.int .i64 0, .int .i64 0, .int .i64 0, .int .i64 0, .int .i64 0, .int .i64 0] 25 := by rw [hW]; exact Box.new (by simp)
  have hw : Below w.heap.size w W1 := by rw [hW]; go_grown
  clear hW
  refine (ch _ (Bm.ext hw rfl) (Hm.ext hw rfl)).mono ?_
  rintro e w2 ⟨rfl, hb⟩
  replace Bt := Bt.ext hb rfl
  replace Br := Br.ext hb rfl
  replace hw := hw.trans (hb.mono hw.size)
  clear hb
  obtain ⟨xt, yt, zt, vt⟩ := Bt.facts
  obtain ⟨xr, yr, zr, vr⟩ := Br.facts
  go_wp2_with fail
  refine bodyPost_ret (v := .tuple #[.agg #[.int .i64 0, .int .i64 0, .int .i64 0, .int .i64 0, .int .i64 0, .int .i64 0], .bool false]) (by simp [results, Try.results22, go_sem, xr]) rfl ⟨rfl, by have hl := hw.size; go_grown⟩

/-- What stands on the other side. -/
def acrE (E : Es) (T : Tri3) (i : Int) : Tri3 × Bool := if hasE E T = true then lftE E (crn T (i + 1)) (crn T i) else (⟨⟨0, 0⟩, ⟨0, 0⟩, ⟨0, 0⟩⟩, false)
theorem across_any (mb b : Nat) (E : Es) (T : Tri3) (i : Int) (hk : okT T) (w : World) (Bm : Box w mb [.map (some b)] 65) (Hm : HoldsMap eW eT okW w b E) :
    Calls Try.prog 22 #[.pointer (some ⟨mb, 0, none⟩), .agg #[.int .i64 T.A.x, .int .i64 T.A.y, .int .i64 T.B.x, .int .i64 T.B.y, .int .i64 T.C.x, .int .i64 T.C.y], .int .i64 i] w fun e w' => e = .returned (.tuple #[eT (acrE E T i).1, .bool (acrE E T i).2]) ∧ Below w.heap.size w w' := by
  unfold acrE
  cases hh : hasE E T with
  | true => rw [if_pos rfl]; exact across_1 mb b E T i hk hh w Bm Hm
  | false => rw [if_neg (by decide)]; exact across_0 mb b E T i hk hh w Bm Hm
end Go.Proofs.Ytaegobkkcgheeaa

namespace Go.Proofs.Ytaegobkkcgheeaa
open Go.RowKit Go.Sort
attribute [local go_sem] rOper rAt rUpon cell_set sg_i64 sg_u64 alloc_cell alloc_frozen
attribute [local go_sem 10000] pt_eql pt_neq tri_eql
attribute [local irreducible] rWalk

/-- The corner of a triangle that is neither of two points (the third one, if each of the first two is). -/
def apx (T : Tri3) (a b : Pt) : Pt := if peqI T.A.x T.A.y a.x a.y = false ∧ peqI T.A.x T.A.y b.x b.y = false then T.A else if peqI T.B.x T.B.y a.x a.y = false ∧ peqI T.B.x T.B.y b.x b.y = false then T.B else T.C
theorem cor_0 (T : Tri3) (w : World) : Calls Try.prog 11 #[.agg #[.int .i64 T.A.x, .int .i64 T.A.y, .int .i64 T.B.x, .int .i64 T.B.y, .int .i64 T.C.x, .int .i64 T.C.y], .int .i64 0] w fun e w' => e = .returned (.agg #[.int .i64 T.A.x, .int .i64 T.A.y]) ∧ Below w.heap.size w w' := corner_any T 0 w
theorem cor_1 (T : Tri3) (w : World) : Calls Try.prog 11 #[.agg #[.int .i64 T.A.x, .int .i64 T.A.y, .int .i64 T.B.x, .int .i64 T.B.y, .int .i64 T.C.x, .int .i64 T.C.y], .int .i64 1] w fun e w' => e = .returned (.agg #[.int .i64 T.B.x, .int .i64 T.B.y]) ∧ Below w.heap.size w w' := corner_any T 1 w
set_option maxRecDepth 100000 in
set_option maxHeartbeats 1000000 in
theorem apex_0 (T : Tri3) (a b : Pt) (ha0 : peqI T.A.x T.A.y a.x a.y = false) (hb0 : peqI T.A.x T.A.y b.x b.y = false) (w : World) :
    Calls Try.prog 56 #[.agg #[.int .i64 T.A.x, .int .i64 T.A.y, .int .i64 T.B.x, .int .i64 T.B.y, .int .i64 T.C.x, .int .i64 T.C.y], .agg #[.int .i64 a.x, .int .i64 a.y], .agg #[.int .i64 b.x, .int .i64 b.y]] w fun e w' => e = .returned (.agg #[.int .i64 T.A.x, .int .i64 T.A.y]) ∧ Below w.heap.size w w' := by
  have cc0 := cor_0 T
  go_enter Try.func56, Try.ntmps56
  go_wp2_with fail
  refine at_world fun W1 hW => ?_
  have Bt : Box W1 (w.heap.size) [.int .i64 T.A.x, .int .i64 T.A.y, .int .i64 T.B.x, .int .i64 T.B.y, .int .i64 T.C.x, .int .i64 T.C.y] 25 := by rw [hW]; exact (((Box.new rfl).old _).old _).old _
  have Ba : Box W1 (w.heap.size + 1) [.int .i64 a.x, .int .i64 a.y] 23 := by rw [hW]; exact ((Box.new (by simp)).old _).old _
  have Bb : Box W1 (w.heap.size + 1 + 1) [.int .i64 b.x, .int .i64 b.y] 23 := by rw [hW]; exact (Box.new (by simp)).old _
  have Br : Box W1 (w.heap.size + 1 + 1 + 1) [.int .i64 0, .int .i64 0] 23 := by rw [hW]; exact Box.new (by simp)
  have hw : Below w.heap.size w W1 := by rw [hW]; go_grown
  clear hW
  refine wp_loop_rounds 4 ?_
  try rw [rounds_succ]
  obtain ⟨xt, yt, zt, vt⟩ := Bt.facts
  obtain ⟨xa, ya, za, va⟩ := Ba.facts
  obtain ⟨xb, yb, zb, vb⟩ := Bb.facts
  obtain ⟨xr, yr, zr, vr⟩ := Br.facts
  go_wp2_with fail
  refine (cc0 _).mono ?_
  rintro e w2 ⟨rfl, hb⟩
  clear xt yt zt vt xa ya za va xb yb zb vb xr yr zr vr
  replace Bt := Bt.ext hb rfl
  replace Ba := Ba.ext hb rfl
  replace Bb := Bb.ext hb rfl
  replace Br := Br.ext hb rfl
  replace hw := hw.trans (hb.mono hw.size)
  clear hb
  obtain ⟨xt, yt, zt, vt⟩ := Bt.facts
  obtain ⟨xa, ya, za, va⟩ := Ba.facts
  obtain ⟨xb, yb, zb, vb⟩ := Bb.facts
  obtain ⟨xr, yr, zr, vr⟩ := Br.facts
  go_wp2_with fail
  refine bodyPost_ret (v := .agg #[.int .i64 T.A.x, .int .i64 T.A.y]) (by simp [results, Try.results56, go_sem, xr, zr]) rfl ⟨rfl, by have hl := hw.size; go_grown⟩

set_option maxRecDepth 100000 in
set_option maxHeartbeats 1000000 in
theorem apex_10 (T : Tri3) (a b : Pt) (ha0 : peqI T.A.x T.A.y a.x a.y = true) (ha1 : peqI T.B.x T.B.y a.x a.y = false) (hb1 : peqI T.B.x T.B.y b.x b.y = false) (w : World) :
    Calls Try.prog 56 #[.agg #[.int .i64 T.A.x, .int .i64 T.A.y, .int .i64 T.B.x, .int .i64 T.B.y, .int .i64 T.C.x, .int .i64 T.C.y], .agg #[.int .i64 a.x, .int .i64 a.y], .agg #[.int .i64 b.x, .int .i64 b.y]] w fun e w' => e = .returned (.agg #[.int .i64 T.B.x, .int .i64 T.B.y]) ∧ Below w.heap.size w w' := by
  have cc0 := cor_0 T
  have cc1 := cor_1 T
  go_enter Try.func56, Try.ntmps56
  go_wp2_with fail
  refine at_world fun W1 hW => ?_
  have Bt : Box W1 (w.heap.size) [.int .i64 T.A.x, .int .i64 T.A.y, .int .i64 T.B.x, .int .i64 T.B.y, .int .i64 T.C.x, .int .i64 T.C.y] 25 := by rw [hW]; exact (((Box.new rfl).old _).old _).old _
  have Ba : Box W1 (w.heap.size + 1) [.int .i64 a.x, .int .i64 a.y] 23 := by rw [hW]; exact ((Box.new (by simp)).old _).old _
  have Bb : Box W1 (w.heap.size + 1 + 1) [.int .i64 b.x, .int .i64 b.y] 23 := by rw [hW]; exact (Box.new (by simp)).old _
  have Br : Box W1 (w.heap.size + 1 + 1 + 1) [.int .i64 0, .int .i64 0] 23 := by rw [hW]; exact Box.new (by simp)
  have hw : Below w.heap.size w W1 := by rw [hW]; go_grown
  clear hW
  refine wp_loop_rounds 4 ?_
  try rw [rounds_succ]
  obtain ⟨xt, yt, zt, vt⟩ := Bt.facts
  obtain ⟨xa, ya, za, va⟩ := Ba.facts
  obtain ⟨xb, yb, zb, vb⟩ := Bb.facts
  obtain ⟨xr, yr, zr, vr⟩ := Br.facts
  go_wp2_with fail
  refine (cc0 _).mono ?_
  rintro e w2 ⟨rfl, hb⟩
  clear xt yt zt vt xa ya za va xb yb zb vb xr yr zr vr
  replace Bt := Bt.ext hb rfl
  replace Ba := Ba.ext hb rfl
  replace Bb := Bb.ext hb rfl
  replace Br := Br.ext hb rfl
  replace hw := hw.trans (hb.mono hw.size)
  clear hb
  obtain ⟨xt, yt, zt, vt⟩ := Bt.facts
  obtain ⟨xa, ya, za, va⟩ := Ba.facts
  obtain ⟨xb, yb, zb, vb⟩ := Bb.facts
  obtain ⟨xr, yr, zr, vr⟩ := Br.facts
  go_wp2_with fail
  clear xt yt zt vt xa ya za va xb yb zb vb xr yr zr vr
  refine at_world fun W3 hW => ?_
  obtain ⟨bkp0, hbp0⟩ : ∃ b, w2.heap.size = b := ⟨_, rfl⟩
  rw [hbp0]
  have ltp0 := Bt.lt
  rw [hbp0] at ltp0
  have lap0 := Ba.lt
  rw [hbp0] at lap0
  have lbp0 := Bb.lt
  rw [hbp0] at lbp0
  have lrp0 := Br.lt
  rw [hbp0] at lrp0
  have fp0 := hw.size
  rw [hbp0] at fp0
  have Bp0 : Box W3 bkp0 [.int .i64 T.A.x, .int .i64 T.A.y] 23 := by rw [hW]; exact Box.new hbp0.symm
  replace Bt : Box W3 (w.heap.size) [.int .i64 T.A.x, .int .i64 T.A.y, .int .i64 T.B.x, .int .i64 T.B.y, .int .i64 T.C.x, .int .i64 T.C.y] 25 := by rw [hW]; exact Bt.old _
  replace Ba : Box W3 (w.heap.size + 1) [.int .i64 a.x, .int .i64 a.y] 23 := by rw [hW]; exact Ba.old _
  replace Bb : Box W3 (w.heap.size + 1 + 1) [.int .i64 b.x, .int .i64 b.y] 23 := by rw [hW]; exact Bb.old _
  replace Br : Box W3 (w.heap.size + 1 + 1 + 1) [.int .i64 0, .int .i64 0] 23 := by rw [hW]; exact Br.old _
  replace hw : Below w.heap.size w W3 := by have hl := hw.size; rw [hW]; go_grown
  clear hW hbp0
  obtain ⟨xt, yt, zt, vt⟩ := Bt.facts
  obtain ⟨xa, ya, za, va⟩ := Ba.facts
  obtain ⟨xb, yb, zb, vb⟩ := Bb.facts
  obtain ⟨xr, yr, zr, vr⟩ := Br.facts
  obtain ⟨xp0, yp0, zp0, vp0⟩ := Bp0.facts
  go_wp2_with fail
  clear xt yt zt vt xa ya za va xb yb zb vb xr yr zr vr xp0 yp0 zp0 vp0
  try rw [rounds_succ]
  obtain ⟨xt, yt, zt, vt⟩ := Bt.facts
  obtain ⟨xa, ya, za, va⟩ := Ba.facts
  obtain ⟨xb, yb, zb, vb⟩ := Bb.facts
  obtain ⟨xr, yr, zr, vr⟩ := Br.facts
  obtain ⟨xp0, yp0, zp0, vp0⟩ := Bp0.facts
  go_wp2_with fail
  refine (cc1 _).mono ?_
  rintro e w4 ⟨rfl, hb⟩
  clear xt yt zt vt xa ya za va xb yb zb vb xr yr zr vr xp0 yp0 zp0 vp0
  replace Bt := Bt.ext hb rfl
  replace Ba := Ba.ext hb rfl
  replace Bb := Bb.ext hb rfl
  replace Br := Br.ext hb rfl
  replace Bp0 := Bp0.ext hb rfl
  replace hw := hw.trans (hb.mono hw.size)
  clear hb
  obtain ⟨xt, yt, zt, vt⟩ := Bt.facts
  obtain ⟨xa, ya, za, va⟩ := Ba.facts
  obtain ⟨xb, yb, zb, vb⟩ := Bb.facts
  obtain ⟨xr, yr, zr, vr⟩ := Br.facts
  obtain ⟨xp0, yp0, zp0, vp0⟩ := Bp0.facts
  go_wp2_with fail
  refine bodyPost_ret (v := .agg #[.int .i64 T.B.x, .int .i64 T.B.y]) (by simp [results, Try.results56, go_sem, xr, zr]) rfl ⟨rfl, by have hl := hw.size; go_grown⟩

set_option maxRecDepth 100000 in
set_option maxHeartbeats 1000000 in
theorem apex_11 (T : Tri3) (a b : Pt) (ha0 : peqI T.A.x T.A.y a.x a.y = true) (ha1 : peqI T.B.x T.B.y a.x a.y = true) (w : World) :
    Calls Try.prog 56 #[.agg #[.int .i64 T.A.x, .int .i64 T.A.y, .int .i64 T.B.x, .int .i64 T.B.y, .int .i64 T.C.x, .int .i64 T.C.y], .agg #[.int .i64 a.x, .int .i64 a.y], .agg #[.int .i64 b.x, .int .i64 b.y]] w fun e w' => e = .returned (.agg #[.int .i64 T.C.x, .int .i64 T.C.y]) ∧ Below w.heap.size w w' := by
  have cc0 := cor_0 T
  have cc1 := cor_1 T
  go_enter Try.func56, Try.ntmps56
  go_wp2_with fail
  refine at_world fun W1 hW => ?_
  have Bt : Box W1 (w.heap.size) [.int .i64 T.A.x, .int .i64 T.A.y, .int .i64 T.B.x, .int .i64 T.B.y, .int .i64 T.C.x, .int .i64 T.C.y] 25 := by rw [hW]; exact (((Box.new rfl).old _).old _).old _
  have Ba : Box W1 (w.heap.size + 1) [.int .i64 a.x, .int .i64 a.y] 23 := by rw [hW]; exact ((Box.new (by simp)).old _).old _
  have Bb : Box W1 (w.heap.size + 1 + 1) [.int .i64 b.x, .int .i64 b.y] 23 := by rw [hW]; exact (Box.new (by simp)).old _
  have Br : Box W1 (w.heap.size + 1 + 1 + 1) [.int .i64 0, .int .i64 0] 23 := by rw [hW]; exact Box.new (by simp)
  have hw : Below w.heap.size w W1 := by rw [hW]; go_grown
  clear hW
  refine wp_loop_rounds 4 ?_
  try rw [rounds_succ]
  obtain ⟨xt, yt, zt, vt⟩ := Bt.facts
  obtain ⟨xa, ya, za, va⟩ := Ba.facts
  obtain ⟨xb, yb, zb, vb⟩ := Bb.facts
  obtain ⟨xr, yr, zr, vr⟩ := Br.facts
  go_wp2_with fail
  refine (cc0 _).mono ?_
  rintro e w2 ⟨rfl, hb⟩
  clear xt yt zt vt xa ya za va xb yb zb vb xr yr zr vr
  replace Bt := Bt.ext hb rfl
  replace Ba := Ba.ext hb rfl
  replace Bb := Bb.ext hb rfl
  replace Br := Br.ext hb rfl
  replace hw := hw.trans (hb.mono hw.size)
  clear hb
  obtain ⟨xt, yt, zt, vt⟩ := Bt.facts
  obtain ⟨xa, ya, za, va⟩ := Ba.facts
  obtain ⟨xb, yb, zb, vb⟩ := Bb.facts
  obtain ⟨xr, yr, zr, vr⟩ := Br.facts
  go_wp2_with fail
  clear xt yt zt vt xa ya za va xb yb zb vb xr yr zr vr
  refine at_world fun W3 hW => ?_
  obtain ⟨bkp0, hbp0⟩ : ∃ b, w2.heap.size = b := ⟨_, rfl⟩
  rw [hbp0]
  have ltp0 := Bt.lt
  rw [hbp0] at ltp0
  have lap0 := Ba.lt
  rw [hbp0] at lap0
  have lbp0 := Bb.lt
  rw [hbp0] at lbp0
  have lrp0 := Br.lt
  rw [hbp0] at lrp0
  have fp0 := hw.size
  rw [hbp0] at fp0
  have Bp0 : Box W3 bkp0 [.int .i64 T.A.x, .int .i64 T.A.y] 23 := by rw [hW]; exact Box.new hbp0.symm
  replace Bt : Box W3 (w.heap.size) [.int .i64 T.A.x, .int .i64 T.A.y, .int .i64 T.B.x, .int .i64 T.B.y, .int .i64 T.C.x, .int .i64 T.C.y] 25 := by rw [hW]; exact Bt.old _
  replace Ba : Box W3 (w.heap.size + 1) [.int .i64 a.x, .int .i64 a.y] 23 := by rw [hW]; exact Ba.old _
  replace Bb : Box W3 (w.heap.size + 1 + 1) [.int .i64 b.x, .int .i64 b.y] 23 := by rw [hW]; exact Bb.old _
  replace Br : Box W3 (w.heap.size + 1 + 1 + 1) [.int .i64 0, .int .i64 0] 23 := by rw [hW]; exact Br.old _
  replace hw : Below w.heap.size w W3 := by have hl := hw.size; rw [hW]; go_grown
  clear hW hbp0
  obtain ⟨xt, yt, zt, vt⟩ := Bt.facts
  obtain ⟨xa, ya, za, va⟩ := Ba.facts
  obtain ⟨xb, yb, zb, vb⟩ := Bb.facts
  obtain ⟨xr, yr, zr, vr⟩ := Br.facts
  obtain ⟨xp0, yp0, zp0, vp0⟩ := Bp0.facts
  go_wp2_with fail
  clear xt yt zt vt xa ya za va xb yb zb vb xr yr zr vr xp0 yp0 zp0 vp0
  try rw [rounds_succ]
  obtain ⟨xt, yt, zt, vt⟩ := Bt.facts
  obtain ⟨xa, ya, za, va⟩ := Ba.facts
  obtain ⟨xb, yb, zb, vb⟩ := Bb.facts
  obtain ⟨xr, yr, zr, vr⟩ := Br.facts
  obtain ⟨xp0, yp0, zp0, vp0⟩ := Bp0.facts
  go_wp2_with fail
  refine (cc1 _).mono ?_
  rintro e w4 ⟨rfl, hb⟩
  clear xt yt zt vt xa ya za va xb yb zb vb xr yr zr vr xp0 yp0 zp0 vp0
  replace Bt := Bt.ext hb rfl
  replace Ba := Ba.ext hb rfl
  replace Bb := Bb.ext hb rfl
  replace Br := Br.ext hb rfl
  replace Bp0 := Bp0.ext hb rfl
  replace hw := hw.trans (hb.mono hw.size)
  clear hb
  obtain ⟨xt, yt, zt, vt⟩ := Bt.facts
  obtain ⟨xa, ya, za, va⟩ := Ba.facts
  obtain ⟨xb, yb, zb, vb⟩ := Bb.facts
  obtain ⟨xr, yr, zr, vr⟩ := Br.facts
  obtain ⟨xp0, yp0, zp0, vp0⟩ := Bp0.facts
  go_wp2_with fail
  clear xt yt zt vt xa ya za va xb yb zb vb xr yr zr vr xp0 yp0 zp0 vp0
  refine at_world fun W5 hW => ?_
  obtain ⟨bkp1, hbp1⟩ : ∃ b, w4.heap.size = b := ⟨_, rfl⟩
  rw [hbp1]
  have ltp1 := Bt.lt
  rw [hbp1] at ltp1
  have lap1 := Ba.lt
  rw [hbp1] at lap1
  have lbp1 := Bb.lt
  rw [hbp1] at lbp1
  have lrp1 := Br.lt
  rw [hbp1] at lrp1
  have lp0p1 := Bp0.lt
  rw [hbp1] at lp0p1
  have fp1 := hw.size
  rw [hbp1] at fp1
  have Bp1 : Box W5 bkp1 [.int .i64 T.B.x, .int .i64 T.B.y] 23 := by rw [hW]; exact Box.new hbp1.symm
  replace Bt : Box W5 (w.heap.size) [.int .i64 T.A.x, .int .i64 T.A.y, .int .i64 T.B.x, .int .i64 T.B.y, .int .i64 T.C.x, .int .i64 T.C.y] 25 := by rw [hW]; exact Bt.old _
  replace Ba : Box W5 (w.heap.size + 1) [.int .i64 a.x, .int .i64 a.y] 23 := by rw [hW]; exact Ba.old _
  replace Bb : Box W5 (w.heap.size + 1 + 1) [.int .i64 b.x, .int .i64 b.y] 23 := by rw [hW]; exact Bb.old _
  replace Br : Box W5 (w.heap.size + 1 + 1 + 1) [.int .i64 0, .int .i64 0] 23 := by rw [hW]; exact Br.old _
  replace Bp0 : Box W5 (bkp0) [.int .i64 T.A.x, .int .i64 T.A.y] 23 := by rw [hW]; exact Bp0.old _
  replace hw : Below w.heap.size w W5 := by have hl := hw.size; rw [hW]; go_grown
  clear hW hbp1
  obtain ⟨xt, yt, zt, vt⟩ := Bt.facts
  obtain ⟨xa, ya, za, va⟩ := Ba.facts
  obtain ⟨xb, yb, zb, vb⟩ := Bb.facts
  obtain ⟨xr, yr, zr, vr⟩ := Br.facts
  obtain ⟨xp0, yp0, zp0, vp0⟩ := Bp0.facts
  obtain ⟨xp1, yp1, zp1, vp1⟩ := Bp1.facts
  go_wp2_with fail
  clear xt yt zt vt xa ya za va xb yb zb vb xr yr zr vr xp0 yp0 zp0 vp0 xp1 yp1 zp1 vp1
  try rw [rounds_succ]
  obtain ⟨xt, yt, zt, vt⟩ := Bt.facts
  obtain ⟨xa, ya, za, va⟩ := Ba.facts
  obtain ⟨xb, yb, zb, vb⟩ := Bb.facts
  obtain ⟨xr, yr, zr, vr⟩ := Br.facts
  obtain ⟨xp0, yp0, zp0, vp0⟩ := Bp0.facts
  obtain ⟨xp1, yp1, zp1, vp1⟩ := Bp1.facts
  go_wp2_with fail
  refine bodyPost_ret (v := .agg #[.int .i64 T.C.x, .int .i64 T.C.y]) (by simp [results, Try.results56, go_sem, xr]) rfl ⟨rfl, by have hl := hw.size; go_grown⟩

set_option maxRecDepth 100000 in
set_option maxHeartbeats 1000000 in
theorem apex_12 (T : Tri3) (a b : Pt) (ha0 : peqI T.A.x T.A.y a.x a.y = true) (ha1 : peqI T.B.x T.B.y a.x a.y = false) (hb1 : peqI T.B.x T.B.y b.x b.y = true) (w : World) :
    Calls Try.prog 56 #[.agg #[.int .i64 T.A.x, .int .i64 T.A.y, .int .i64 T.B.x, .int .i64 T.B.y, .int .i64 T.C.x, .int .i64 T.C.y], .agg #[.int .i64 a.x, .int .i64 a.y], .agg #[.int .i64 b.x, .int .i64 b.y]] w fun e w' => e = .returned (.agg #[.int .i64 T.C.x, .int .i64 T.C.y]) ∧ Below w.heap.size w w' := by
  have cc0 := cor_0 T
  have cc1 := cor_1 T
  go_enter Try.func56, Try.ntmps56
  go_wp2_with fail
  refine at_world fun W1 hW => ?_
  have Bt : Box W1 (w.heap.size) [.int .i64 T.A.x, .int .i64 T.A.y, .int .i64 T.B.x, .int .i64 T.B.y, .int .i64 T.C.x, .int .i64 T.C.y] 25 := by rw [hW]; exact (((Box.new rfl).old _).old _).old _
  have Ba : Box W1 (w.heap.size + 1) [.int .i64 a.x, .int .i64 a.y] 23 := by rw [hW]; exact ((Box.new (by simp)).old _).old _
  have Bb : Box W1 (w.heap.size + 1 + 1) [.int .i64 b.x, .int .i64 b.y] 23 := by rw [hW]; exact (Box.new (by simp)).old _
  have Br : Box W1 (w.heap.size + 1 + 1 + 1) [.int .i64 0, .int .i64 0] 23 := by rw [hW]; exact Box.new (by simp)
  have hw : Below w.heap.size w W1 := by rw [hW]; go_grown
  clear hW
  refine wp_loop_rounds 4 ?_
  try rw [rounds_succ]
  obtain ⟨xt, yt, zt, vt⟩ := Bt.facts
  obtain ⟨xa, ya, za, va⟩ := Ba.facts
  obtain ⟨xb, yb, zb, vb⟩ := Bb.facts
  obtain ⟨xr, yr, zr, vr⟩ := Br.facts
  go_wp2_with fail
  refine (cc0 _).mono ?_
  rintro e w2 ⟨rfl, hb⟩
  clear xt yt zt vt xa ya za va xb yb zb vb xr yr zr vr
  replace Bt := Bt.ext hb rfl
  replace Ba := Ba.ext hb rfl
  replace Bb := Bb.ext hb rfl
  replace Br := Br.ext hb rfl
  replace hw := hw.trans (hb.mono hw.size)
  clear hb
  obtain ⟨xt, yt, zt, vt⟩ := Bt.facts
  obtain ⟨xa, ya, za, va⟩ := Ba.facts
  obtain ⟨xb, yb, zb, vb⟩ := Bb.facts
  obtain ⟨xr, yr, zr, vr⟩ := Br.facts
  go_wp2_with fail
  clear xt yt zt vt xa ya za va xb yb zb vb xr yr zr vr
  refine at_world fun W3 hW => ?_
  obtain ⟨bkp0, hbp0⟩ : ∃ b, w2.heap.size = b := ⟨_, rfl⟩
  rw [hbp0]
  have ltp0 := Bt.lt
  rw [hbp0] at ltp0
  have lap0 := Ba.lt
  rw [hbp0] at lap0
  have lbp0 := Bb.lt
  rw [hbp0] at lbp0
  have lrp0 := Br.lt
  rw [hbp0] at lrp0
  have fp0 := hw.size
  rw [hbp0] at fp0
  have Bp0 : Box W3 bkp0 [.int .i64 T.A.x, .int .i64 T.A.y] 23 := by rw [hW]; exact Box.new hbp0.symm
  replace Bt : Box W3 (w.heap.size) [.int .i64 T.A.x, .int .i64 T.A.y, .int .i64 T.B.x, .int .i64 T.B.y, .int .i64 T.C.x, .int .i64 T.C.y] 25 := by rw [hW]; exact Bt.old _
  replace Ba : Box W3 (w.heap.size + 1) [.int .i64 a.x, .int .i64 a.y] 23 := by rw [hW]; exact Ba.old _
  replace Bb : Box W3 (w.heap.size + 1 + 1) [.int .i64 b.x, .int .i64 b.y] 23 := by rw [hW]; exact Bb.old _
  replace Br : Box W3 (w.heap.size + 1 + 1 + 1) [.int .i64 0, .int .i64 0] 23 := by rw [hW]; exact Br.old _
  replace hw : Below w.heap.size w W3 := by have hl := hw.size; rw [hW]; go_grown
  clear hW hbp0
  obtain ⟨xt, yt, zt, vt⟩ := Bt.facts
  obtain ⟨xa, ya, za, va⟩ := Ba.facts
  obtain ⟨xb, yb, zb, vb⟩ := Bb.facts
  obtain ⟨xr, yr, zr, vr⟩ := Br.facts
  obtain ⟨xp0, yp0, zp0, vp0⟩ := Bp0.facts
  go_wp2_with fail
  clear xt yt zt vt xa ya za va xb yb zb vb xr yr zr vr xp0 yp0 zp0 vp0
  try rw [rounds_succ]
  obtain ⟨xt, yt, zt, vt⟩ := Bt.facts
  obtain ⟨xa, ya, za, va⟩ := Ba.facts
  obtain ⟨xb, yb, zb, vb⟩ := Bb.facts
  obtain ⟨xr, yr, zr, vr⟩ := Br.facts
  obtain ⟨xp0, yp0, zp0, vp0⟩ := Bp0.facts
  go_wp2_with fail
  refine (cc1 _).mono ?_
  rintro e w4 ⟨rfl, hb⟩
  clear xt yt zt vt xa ya za va xb yb zb vb xr yr zr vr xp0 yp0 zp0 vp0
  replace Bt := Bt.ext hb rfl
  replace Ba := Ba.ext hb rfl
  replace Bb := Bb.ext hb rfl
  replace Br := Br.ext hb rfl
  replace Bp0 := Bp0.ext hb rfl
  replace hw := hw.trans (hb.mono hw.size)
  clear hb
  obtain ⟨xt, yt, zt, vt⟩ := Bt.facts
  obtain ⟨xa, ya, za, va⟩ := Ba.facts
  obtain ⟨xb, yb, zb, vb⟩ := Bb.facts
  obtain ⟨xr, yr, zr, vr⟩ := Br.facts
  obtain ⟨xp0, yp0, zp0, vp0⟩ := Bp0.facts
  go_wp2_with fail
  clear xt yt zt vt xa ya za va xb yb zb vb xr yr zr vr xp0 yp0 zp0 vp0
  refine at_world fun W5 hW => ?_
  obtain ⟨bkp1, hbp1⟩ : ∃ b, w4.heap.size = b := ⟨_, rfl⟩
  rw [hbp1]
  have ltp1 := Bt.lt
  rw [hbp1] at ltp1
  have lap1 := Ba.lt
  rw [hbp1] at lap1
  have lbp1 := Bb.lt
  rw [hbp1] at lbp1
  have lrp1 := Br.lt
  rw [hbp1] at lrp1
  have lp0p1 := Bp0.lt
  rw [hbp1] at lp0p1
  have fp1 := hw.size
  rw [hbp1] at fp1
  have Bp1 : Box W5 bkp1 [.int .i64 T.B.x, .int .i64 T.B.y] 23 := by rw [hW]; exact Box.new hbp1.symm
  replace Bt : Box W5 (w.heap.size) [.int .i64 T.A.x, .int .i64 T.A.y, .int .i64 T.B.x, .int .i64 T.B.y, .int .i64 T.C.x, .int .i64 T.C.y] 25 := by rw [hW]; exact Bt.old _
  replace Ba : Box W5 (w.heap.size + 1) [.int .i64 a.x, .int .i64 a.y] 23 := by rw [hW]; exact Ba.old _
  replace Bb : Box W5 (w.heap.size + 1 + 1) [.int .i64 b.x, .int .i64 b.y] 23 := by rw [hW]; exact Bb.old _
  replace Br : Box W5 (w.heap.size + 1 + 1 + 1) [.int .i64 0, .int .i64 0] 23 := by rw [hW]; exact Br.old _
  replace Bp0 : Box W5 (bkp0) [.int .i64 T.A.x, .int .i64 T.A.y] 23 := by rw [hW]; exact Bp0.old _
  replace hw : Below w.heap.size w W5 := by have hl := hw.size; rw [hW]; go_grown
  clear hW hbp1
  obtain ⟨xt, yt, zt, vt⟩ := Bt.facts
  obtain ⟨xa, ya, za, va⟩ := Ba.facts
  obtain ⟨xb, yb, zb, vb⟩ := Bb.facts
  obtain ⟨xr, yr, zr, vr⟩ := Br.facts
  obtain ⟨xp0, yp0, zp0, vp0⟩ := Bp0.facts
  obtain ⟨xp1, yp1, zp1, vp1⟩ := Bp1.facts
  go_wp2_with fail
  clear xt yt zt vt xa ya za va xb yb zb vb xr yr zr vr xp0 yp0 zp0 vp0 xp1 yp1 zp1 vp1
  try rw [rounds_succ]
  obtain ⟨xt, yt, zt, vt⟩ := Bt.facts
  obtain ⟨xa, ya, za, va⟩ := Ba.facts
  obtain ⟨xb, yb, zb, vb⟩ := Bb.facts
  obtain ⟨xr, yr, zr, vr⟩ := Br.facts
  obtain ⟨xp0, yp0, zp0, vp0⟩ := Bp0.facts
  obtain ⟨xp1, yp1, zp1, vp1⟩ := Bp1.facts
  go_wp2_with fail
  refine bodyPost_ret (v := .agg #[.int .i64 T.C.x, .int .i64 T.C.y]) (by simp [results, Try.results56, go_sem, xr]) rfl ⟨rfl, by have hl := hw.size; go_grown⟩

set_option maxRecDepth 100000 in
set_option maxHeartbeats 1000000 in
theorem apex_20 (T : Tri3) (a b : Pt) (ha0 : peqI T.A.x T.A.y a.x a.y = false) (hb0 : peqI T.A.x T.A.y b.x b.y = true) (ha1 : peqI T.B.x T.B.y a.x a.y = false) (hb1 : peqI T.B.x T.B.y b.x b.y = false) (w : World) :
    Calls Try.prog 56 #[.agg #[.int .i64 T.A.x, .int .i64 T.A.y, .int .i64 T.B.x, .int .i64 T.B.y, .int .i64 T.C.x, .int .i64 T.C.y], .agg #[.int .i64 a.x, .int .i64 a.y], .agg #[.int .i64 b.x, .int .i64 b.y]] w fun e w' => e = .returned (.agg #[.int .i64 T.B.x, .int .i64 T.B.y]) ∧ Below w.heap.size w w' := by
  have cc0 := cor_0 T
  have cc1 := cor_1 T
  go_enter Try.func56, Try.ntmps56
  go_wp2_with fail
  refine at_world fun W1 hW => ?_
  have Bt : Box W1 (w.heap.size) [.int .i64 T.A.x, .int .i64 T.A.y, .int .i64 T.B.x, .int .i64 T.B.y, .int .i64 T.C.x, .int .i64 T.C.y] 25 := by rw [hW]; exact (((Box.new rfl).old _).old _).old _
  have Ba : Box W1 (w.heap.size + 1) [.int .i64 a.x, .int .i64 a.y] 23 := by rw [hW]; exact ((Box.new (by simp)).old _).old _
  have Bb : Box W1 (w.heap.size + 1 + 1) [.int .i64 b.x, .int .i64 b.y] 23 := by rw [hW]; exact (Box.new (by simp)).old _
  have Br : Box W1 (w.heap.size + 1 + 1 + 1) [.int .i64 0, .int .i64 0] 23 := by rw [hW]; exact Box.new (by simp)
  have hw : Below w.heap.size w W1 := by rw [hW]; go_grown
  clear hW
  refine wp_loop_rounds 4 ?_
  try rw [rounds_succ]
  obtain ⟨xt, yt, zt, vt⟩ := Bt.facts
  obtain ⟨xa, ya, za, va⟩ := Ba.facts
  obtain ⟨xb, yb, zb, vb⟩ := Bb.facts
  obtain ⟨xr, yr, zr, vr⟩ := Br.facts
  go_wp2_with fail
  refine (cc0 _).mono ?_
  rintro e w2 ⟨rfl, hb⟩
  clear xt yt zt vt xa ya za va xb yb zb vb xr yr zr vr
  replace Bt := Bt.ext hb rfl
  replace Ba := Ba.ext hb rfl
  replace Bb := Bb.ext hb rfl
  replace Br := Br.ext hb rfl
  replace hw := hw.trans (hb.mono hw.size)
  clear hb
  obtain ⟨xt, yt, zt, vt⟩ := Bt.facts
  obtain ⟨xa, ya, za, va⟩ := Ba.facts
  obtain ⟨xb, yb, zb, vb⟩ := Bb.facts
  obtain ⟨xr, yr, zr, vr⟩ := Br.facts
  go_wp2_with fail
  clear xt yt zt vt xa ya za va xb yb zb vb xr yr zr vr
  refine at_world fun W3 hW => ?_
  obtain ⟨bkp0, hbp0⟩ : ∃ b, w2.heap.size = b := ⟨_, rfl⟩
  rw [hbp0]
  have ltp0 := Bt.lt
  rw [hbp0] at ltp0
  have lap0 := Ba.lt
  rw [hbp0] at lap0
  have lbp0 := Bb.lt
  rw [hbp0] at lbp0
  have lrp0 := Br.lt
  rw [hbp0] at lrp0
  have fp0 := hw.size
  rw [hbp0] at fp0
  have Bp0 : Box W3 bkp0 [.int .i64 T.A.x, .int .i64 T.A.y] 23 := by rw [hW]; exact Box.new hbp0.symm
  replace Bt : Box W3 (w.heap.size) [.int .i64 T.A.x, .int .i64 T.A.y, .int .i64 T.B.x, .int .i64 T.B.y, .int .i64 T.C.x, .int .i64 T.C.y] 25 := by rw [hW]; exact Bt.old _
  replace Ba : Box W3 (w.heap.size + 1) [.int .i64 a.x, .int .i64 a.y] 23 := by rw [hW]; exact Ba.old _
  replace Bb : Box W3 (w.heap.size + 1 + 1) [.int .i64 b.x, .int .i64 b.y] 23 := by rw [hW]; exact Bb.old _
  replace Br : Box W3 (w.heap.size + 1 + 1 + 1) [.int .i64 0, .int .i64 0] 23 := by rw [hW]; exact Br.old _
  replace hw : Below w.heap.size w W3 := by have hl := hw.size; rw [hW]; go_grown
  clear hW hbp0
  obtain ⟨xt, yt, zt, vt⟩ := Bt.facts
  obtain ⟨xa, ya, za, va⟩ := Ba.facts
  obtain ⟨xb, yb, zb, vb⟩ := Bb.facts
  obtain ⟨xr, yr, zr, vr⟩ := Br.facts
  obtain ⟨xp0, yp0, zp0, vp0⟩ := Bp0.facts
  go_wp2_with fail
  clear xt yt zt vt xa ya za va xb yb zb vb xr yr zr vr xp0 yp0 zp0 vp0
  try rw [rounds_succ]
  obtain ⟨xt, yt, zt, vt⟩ := Bt.facts
  obtain ⟨xa, ya, za, va⟩ := Ba.facts
  obtain ⟨xb, yb, zb, vb⟩ := Bb.facts
  obtain ⟨xr, yr, zr, vr⟩ := Br.facts
  obtain ⟨xp0, yp0, zp0, vp0⟩ := Bp0.facts
  go_wp2_with fail
  refine (cc1 _).mono ?_
  rintro e w4 ⟨rfl, hb⟩
  clear xt yt zt vt xa ya za va xb yb zb vb xr yr zr vr xp0 yp0 zp0 vp0
  replace Bt := Bt.ext hb rfl
  replace Ba := Ba.ext hb rfl
  replace Bb := Bb.ext hb rfl
  replace Br := Br.ext hb rfl
  replace Bp0 := Bp0.ext hb rfl
  replace hw := hw.trans (hb.mono hw.size)
  clear hb
  obtain ⟨xt, yt, zt, vt⟩ := Bt.facts
  obtain ⟨xa, ya, za, va⟩ := Ba.facts
  obtain ⟨xb, yb, zb, vb⟩ := Bb.facts
  obtain ⟨xr, yr, zr, vr⟩ := Br.facts
  obtain ⟨xp0, yp0, zp0, vp0⟩ := Bp0.facts
  go_wp2_with fail
  refine bodyPost_ret (v := .agg #[.int .i64 T.B.x, .int .i64 T.B.y]) (by simp [results, Try.results56, go_sem, xr, zr]) rfl ⟨rfl, by have hl := hw.size; go_grown⟩

set_option maxRecDepth 100000 in
set_option maxHeartbeats 1000000 in
theorem apex_21 (T : Tri3) (a b : Pt) (ha0 : peqI T.A.x T.A.y a.x a.y = false) (hb0 : peqI T.A.x T.A.y b.x b.y = true) (ha1 : peqI T.B.x T.B.y a.x a.y = true) (w : World) :
    Calls Try.prog 56 #[.agg #[.int .i64 T.A.x, .int .i64 T.A.y, .int .i64 T.B.x, .int .i64 T.B.y, .int .i64 T.C.x, .int .i64 T.C.y], .agg #[.int .i64 a.x, .int .i64 a.y], .agg #[.int .i64 b.x, .int .i64 b.y]] w fun e w' => e = .returned (.agg #[.int .i64 T.C.x, .int .i64 T.C.y]) ∧ Below w.heap.size w w' := by
  have cc0 := cor_0 T
  have cc1 := cor_1 T
  go_enter Try.func56, Try.ntmps56
  go_wp2_with fail
  refine at_world fun W1 hW => ?_
  have Bt : Box W1 (w.heap.size) [.int .i64 T.A.x, .int .i64 T.A.y, .int .i64 T.B.x, .int .i64 T.B.y, .int .i64 T.C.x, .int .i64 T.C.y] 25 := by rw [hW]; exact (((Box.new rfl).old _).old _).old _
  have Ba : Box W1 (w.heap.size + 1) [.int .i64 a.x, .int .i64 a.y] 23 := by rw [hW]; exact ((Box.new (by simp)).old _).old _
  have Bb : Box W1 (w.heap.size + 1 + 1) [.int .i64 b.x, .int .i64 b.y] 23 := by rw [hW]; exact (Box.new (by simp)).old _
  have Br : Box W1 (w.heap.size + 1 + 1 + 1) [.int .i64 0, .int .i64 0] 23 := by rw [hW]; exact Box.new (by simp)
  have hw : Below w.heap.size w W1 := by rw [hW]; go_grown
  clear hW
  refine wp_loop_rounds 4 ?_
  try rw [rounds_succ]
  obtain ⟨xt, yt, zt, vt⟩ := Bt.facts
  obtain ⟨xa, ya, za, va⟩ := Ba.facts
  obtain ⟨xb, yb, zb, vb⟩ := Bb.facts
  obtain ⟨xr, yr, zr, vr⟩ := Br.facts
  go_wp2_with fail
  refine (cc0 _).mono ?_
  rintro e w2 ⟨rfl, hb⟩
  clear xt yt zt vt xa ya za va xb yb zb vb xr yr zr vr
  replace Bt := Bt.ext hb rfl
  replace Ba := Ba.ext hb rfl
  replace Bb := Bb.ext hb rfl
  replace Br := Br.ext hb rfl
  replace hw := hw.trans (hb.mono hw.size)
  clear hb
  obtain ⟨xt, yt, zt, vt⟩ := Bt.facts
  obtain ⟨xa, ya, za, va⟩ := Ba.facts
  obtain ⟨xb, yb, zb, vb⟩ := Bb.facts
  obtain ⟨xr, yr, zr, vr⟩ := Br.facts
  go_wp2_with fail
  clear xt yt zt vt xa ya za va xb yb zb vb xr yr zr vr
  refine at_world fun W3 hW => ?_
  obtain ⟨bkp0, hbp0⟩ : ∃ b, w2.heap.size = b := ⟨_, rfl⟩
  rw [hbp0]
  have ltp0 := Bt.lt
  rw [hbp0] at ltp0
  have lap0 := Ba.lt
  rw [hbp0] at lap0
  have lbp0 := Bb.lt
  rw [hbp0] at lbp0
  have lrp0 := Br.lt
  rw [hbp0] at lrp0
  have fp0 := hw.size
  rw [hbp0] at fp0
  have Bp0 : Box W3 bkp0 [.int .i64 T.A.x, .int .i64 T.A.y] 23 := by rw [hW]; exact Box.new hbp0.symm
  replace Bt : Box W3 (w.heap.size) [.int .i64 T.A.x, .int .i64 T.A.y, .int .i64 T.B.x, .int .i64 T.B.y, .int .i64 T.C.x, .int .i64 T.C.y] 25 := by rw [hW]; exact Bt.old _
  replace Ba : Box W3 (w.heap.size + 1) [.int .i64 a.x, .int .i64 a.y] 23 := by rw [hW]; exact Ba.old _
  replace Bb : Box W3 (w.heap.size + 1 + 1) [.int .i64 b.x, .int .i64 b.y] 23 := by rw [hW]; exact Bb.old _
  replace Br : Box W3 (w.heap.size + 1 + 1 + 1) [.int .i64 0, .int .i64 0] 23 := by rw [hW]; exact Br.old _
  replace hw : Below w.heap.size w W3 := by have hl := hw.size; rw [hW]; go_grown
  clear hW hbp0
  obtain ⟨xt, yt, zt, vt⟩ := Bt.facts
  obtain ⟨xa, ya, za, va⟩ := Ba.facts
  obtain ⟨xb, yb, zb, vb⟩ := Bb.facts
  obtain ⟨xr, yr, zr, vr⟩ := Br.facts
  obtain ⟨xp0, yp0, zp0, vp0⟩ := Bp0.facts
  go_wp2_with fail
  clear xt yt zt vt xa ya za va xb yb zb vb xr yr zr vr xp0 yp0 zp0 vp0
  try rw [rounds_succ]
  obtain ⟨xt, yt, zt, vt⟩ := Bt.facts
  obtain ⟨xa, ya, za, va⟩ := Ba.facts
  obtain ⟨xb, yb, zb, vb⟩ := Bb.facts
  obtain ⟨xr, yr, zr, vr⟩ := Br.facts
  obtain ⟨xp0, yp0, zp0, vp0⟩ := Bp0.facts
  go_wp2_with fail
  refine (cc1 _).mono ?_
  rintro e w4 ⟨rfl, hb⟩
  clear xt yt zt vt xa ya za va xb yb zb vb xr yr zr vr xp0 yp0 zp0 vp0
  replace Bt := Bt.ext hb rfl
  replace Ba := Ba.ext hb rfl
  replace Bb := Bb.ext hb rfl
  replace Br := Br.ext hb rfl
  replace Bp0 := Bp0.ext hb rfl
  replace hw := hw.trans (hb.mono hw.size)
  clear hb
  obtain ⟨xt, yt, zt, vt⟩ := Bt.facts
  obtain ⟨xa, ya, za, va⟩ := Ba.facts
  obtain ⟨xb, yb, zb, vb⟩ := Bb.facts
  obtain ⟨xr, yr, zr, vr⟩ := Br.facts
  obtain ⟨xp0, yp0, zp0, vp0⟩ := Bp0.facts
  go_wp2_with fail
  clear xt yt zt vt xa ya za va xb yb zb vb xr yr zr vr xp0 yp0 zp0 vp0
  refine at_world fun W5 hW => ?_
  obtain ⟨bkp1, hbp1⟩ : ∃ b, w4.heap.size = b := ⟨_, rfl⟩
  rw [hbp1]
  have ltp1 := Bt.lt
  rw [hbp1] at ltp1
  have lap1 := Ba.lt
  rw [hbp1] at lap1
  have lbp1 := Bb.lt
  rw [hbp1] at lbp1
  have lrp1 := Br.lt
  rw [hbp1] at lrp1
  have lp0p1 := Bp0.lt
  rw [hbp1] at lp0p1
  have fp1 := hw.size
  rw [hbp1] at fp1
  have Bp1 : Box W5 bkp1 [.int .i64 T.B.x, .int .i64 T.B.y] 23 := by rw [hW]; exact Box.new hbp1.symm
  replace Bt : Box W5 (w.heap.size) [.int .i64 T.A.x, .int .i64 T.A.y, .int .i64 T.B.x, .int .i64 T.B.y, .int .i64 T.C.x, .int .i64 T.C.y] 25 := by rw [hW]; exact Bt.old _
  replace Ba : Box W5 (w.heap.size + 1) [.int .i64 a.x, .int .i64 a.y] 23 := by rw [hW]; exact Ba.old _
  replace Bb : Box W5 (w.heap.size + 1 + 1) [.int .i64 b.x, .int .i64 b.y] 23 := by rw [hW]; exact Bb.old _
  replace Br : Box W5 (w.heap.size + 1 + 1 + 1) [.int .i64 0, .int .i64 0] 23 := by rw [hW]; exact Br.old _
  replace Bp0 : Box W5 (bkp0) [.int .i64 T.A.x, .int .i64 T.A.y] 23 := by rw [hW]; exact Bp0.old _
  replace hw : Below w.heap.size w W5 := by have hl := hw.size; rw [hW]; go_grown
  clear hW hbp1
  obtain ⟨xt, yt, zt, vt⟩ := Bt.facts
  obtain ⟨xa, ya, za, va⟩ := Ba.facts
  obtain ⟨xb, yb, zb, vb⟩ := Bb.facts
  obtain ⟨xr, yr, zr, vr⟩ := Br.facts
  obtain ⟨xp0, yp0, zp0, vp0⟩ := Bp0.facts
  obtain ⟨xp1, yp1, zp1, vp1⟩ := Bp1.facts
  go_wp2_with fail
  clear xt yt zt vt xa ya za va xb yb zb vb xr yr zr vr xp0 yp0 zp0 vp0 xp1 yp1 zp1 vp1
  try rw [rounds_succ]
  obtain ⟨xt, yt, zt, vt⟩ := Bt.facts
  obtain ⟨xa, ya, za, va⟩ := Ba.facts
  obtain ⟨xb, yb, zb, vb⟩ := Bb.facts
  obtain ⟨xr, yr, zr, vr⟩ := Br.facts
  obtain ⟨xp0, yp0, zp0, vp0⟩ := Bp0.facts
  obtain ⟨xp1, yp1, zp1, vp1⟩ := Bp1.facts
  go_wp2_with fail
  refine bodyPost_ret (v := .agg #[.int .i64 T.C.x, .int .i64 T.C.y]) (by simp [results, Try.results56, go_sem, xr]) rfl ⟨rfl, by have hl := hw.size; go_grown⟩

set_option maxRecDepth 100000 in
set_option maxHeartbeats 1000000 in
theorem apex_22 (T : Tri3) (a b : Pt) (ha0 : peqI T.A.x T.A.y a.x a.y = false) (hb0 : peqI T.A.x T.A.y b.x b.y = true) (ha1 : peqI T.B.x T.B.y a.x a.y = false) (hb1 : peqI T.B.x T.B.y b.x b.y = true) (w : World) :
    Calls Try.prog 56 #[.agg #[.int .i64 T.A.x, .int .i64 T.A.y, .int .i64 T.B.x, .int .i64 T.B.y, .int .i64 T.C.x, .int .i64 T.C.y], .agg #[.int .i64 a.x, .int .i64 a.y], .agg #[.int .i64 b.x, .int .i64 b.y]] w fun e w' => e = .returned (.agg #[.int .i64 T.C.x, .int .i64 T.C.y]) ∧ Below w.heap.size w w' := by
  have cc0 := cor_0 T
  have cc1 := cor_1 T
  go_enter Try.func56, Try.ntmps56
  go_wp2_with fail
  refine at_world fun W1 hW => ?_
  have Bt : Box W1 (w.heap.size) [.int .i64 T.A.x, .int .i64 T.A.y, .int .i64 T.B.x, .int .i64 T.B.y, .int .i64 T.C.x, .int .i64 T.C.y] 25 := by rw [hW]; exact (((Box.new rfl).old _).old _).old _
  have Ba : Box W1 (w.heap.size + 1) [.int .i64 a.x, .int .i64 a.y] 23 := by rw [hW]; exact ((Box.new (by simp)).old _).old _
  have Bb : Box W1 (w.heap.size + 1 + 1) [.int .i64 b.x, .int .i64 b.y] 23 := by rw [hW]; exact (Box.new (by simp)).old _
  have Br : Box W1 (w.heap.size + 1 + 1 + 1) [.int .i64 0, .int .i64 0] 23 := by rw [hW]; exact Box.new (by simp)
  have hw : Below w.heap.size w W1 := by rw [hW]; go_grown
  clear hW
  refine wp_loop_rounds 4 ?_
  try rw [rounds_succ]
  obtain ⟨xt, yt, zt, vt⟩ := Bt.facts
  obtain ⟨xa, ya, za, va⟩ := Ba.facts
  obtain ⟨xb, yb, zb, vb⟩ := Bb.facts
  obtain ⟨xr, yr, zr, vr⟩ := Br.facts
  go_wp2_with fail
  refine (cc0 _).mono ?_
  rintro e w2 ⟨rfl, hb⟩
  clear xt yt zt vt xa ya za va xb yb zb vb xr yr zr vr
  replace Bt := Bt.ext hb rfl
  replace Ba := Ba.ext hb rfl
  replace Bb := Bb.ext hb rfl
  replace Br := Br.ext hb rfl
  replace hw := hw.trans (hb.mono hw.size)
  clear hb
  obtain ⟨xt, yt, zt, vt⟩ := Bt.facts
  obtain ⟨xa, ya, za, va⟩ := Ba.facts
  obtain ⟨xb, yb, zb, vb⟩ := Bb.facts
  obtain ⟨xr, yr, zr, vr⟩ := Br.facts
  go_wp2_with fail
  clear xt yt zt vt xa ya za va xb yb zb vb xr yr zr vr
  refine at_world fun W3 hW => ?_
  obtain ⟨bkp0, hbp0⟩ : ∃ b, w2.heap.size = b := ⟨_, rfl⟩
  rw [hbp0]
  have ltp0 := Bt.lt
  rw [hbp0] at ltp0
  have lap0 := Ba.lt
  rw [hbp0] at lap0
  have lbp0 := Bb.lt
  rw [hbp0] at lbp0
  have lrp0 := Br.lt
  rw [hbp0] at lrp0
  have fp0 := hw.size
  rw [hbp0] at fp0
  have Bp0 : Box W3 bkp0 [.int .i64 T.A.x, .int .i64 T.A.y] 23 := by rw [hW]; exact Box.new hbp0.symm
  replace Bt : Box W3 (w.heap.size) [.int .i64 T.A.x, .int .i64 T.A.y, .int .i64 T.B.x, .int .i64 T.B.y, .int .i64 T.C.x, .int .i64 T.C.y] 25 := by rw [hW]; exact Bt.old _
  replace Ba : Box W3 (w.heap.size + 1) [.int .i64 a.x, .int .i64 a.y] 23 := by rw [hW]; exact Ba.old _
  replace Bb : Box W3 (w.heap.size + 1 + 1) [.int .i64 b.x, .int .i64 b.y] 23 := by rw [hW]; exact Bb.old _
  replace Br : Box W3 (w.heap.size + 1 + 1 + 1) [.int .i64 0, .int .i64 0] 23 := by rw [hW]; exact Br.old _
  replace hw : Below w.heap.size w W3 := by have hl := hw.size; rw [hW]; go_grown
  clear hW hbp0
  obtain ⟨xt, yt, zt, vt⟩ := Bt.facts
  obtain ⟨xa, ya, za, va⟩ := Ba.facts
  obtain ⟨xb, yb, zb, vb⟩ := Bb.facts
  obtain ⟨xr, yr, zr, vr⟩ := Br.facts
  obtain ⟨xp0, yp0, zp0, vp0⟩ := Bp0.facts
  go_wp2_with fail
  clear xt yt zt vt xa ya za va xb yb zb vb xr yr zr vr xp0 yp0 zp0 vp0
  try rw [rounds_succ]
  obtain ⟨xt, yt, zt, vt⟩ := Bt.facts
  obtain ⟨xa, ya, za, va⟩ := Ba.facts
  obtain ⟨xb, yb, zb, vb⟩ := Bb.facts
  obtain ⟨xr, yr, zr, vr⟩ := Br.facts
  obtain ⟨xp0, yp0, zp0, vp0⟩ := Bp0.facts
  go_wp2_with fail
  refine (cc1 _).mono ?_
  rintro e w4 ⟨rfl, hb⟩
  clear xt yt zt vt xa ya za va xb yb zb vb xr yr zr vr xp0 yp0 zp0 vp0
  replace Bt := Bt.ext hb rfl
  replace Ba := Ba.ext hb rfl
  replace Bb := Bb.ext hb rfl
  replace Br := Br.ext hb rfl
  replace Bp0 := Bp0.ext hb rfl
  replace hw := hw.trans (hb.mono hw.size)
  clear hb
  obtain ⟨xt, yt, zt, vt⟩ := Bt.facts
  obtain ⟨xa, ya, za, va⟩ := Ba.facts
  obtain ⟨xb, yb, zb, vb⟩ := Bb.facts
  obtain ⟨xr, yr, zr, vr⟩ := Br.facts
  obtain ⟨xp0, yp0, zp0, vp0⟩ := Bp0.facts
  go_wp2_with fail
  clear xt yt zt vt xa ya za va xb yb zb vb xr yr zr vr xp0 yp0 zp0 vp0
  refine at_world fun W5 hW => ?_
  obtain ⟨bkp1, hbp1⟩ : ∃ b, w4.heap.size = b := ⟨_, rfl⟩
  rw [hbp1]
  have ltp1 := Bt.lt
  rw [hbp1] at ltp1
  have lap1 := Ba.lt
  rw [hbp1] at lap1
  have lbp1 := Bb.lt
  rw [hbp1] at lbp1
  have lrp1 := Br.lt
  rw [hbp1] at lrp1
  have lp0p1 := Bp0.lt
  rw [hbp1] at lp0p1
  have fp1 := hw.size
  rw [hbp1] at fp1
  have Bp1 : Box W5 bkp1 [.int .i64 T.B.x, .int .i64 T.B.y] 23 := by rw [hW]; exact Box.new hbp1.symm
  replace Bt : Box W5 (w.heap.size) [.int .i64 T.A.x, .int .i64 T.A.y, .int .i64 T.B.x, .int .i64 T.B.y, .int .i64 T.C.x, .int .i64 T.C.y] 25 := by rw [hW]; exact Bt.old _
  replace Ba : Box W5 (w.heap.size + 1) [.int .i64 a.x, .int .i64 a.y] 23 := by rw [hW]; exact Ba.old _
  replace Bb : Box W5 (w.heap.size + 1 + 1) [.int .i64 b.x, .int .i64 b.y] 23 := by rw [hW]; exact Bb.old _
  replace Br : Box W5 (w.heap.size + 1 + 1 + 1) [.int .i64 0, .int .i64 0] 23 := by rw [hW]; exact Br.old _
  replace Bp0 : Box W5 (bkp0) [.int .i64 T.A.x, .int .i64 T.A.y] 23 := by rw [hW]; exact Bp0.old _
  replace hw : Below w.heap.size w W5 := by have hl := hw.size; rw [hW]; go_grown
  clear hW hbp1
  obtain ⟨xt, yt, zt, vt⟩ := Bt.facts
  obtain ⟨xa, ya, za, va⟩ := Ba.facts
  obtain ⟨xb, yb, zb, vb⟩ := Bb.facts
  obtain ⟨xr, yr, zr, vr⟩ := Br.facts
  obtain ⟨xp0, yp0, zp0, vp0⟩ := Bp0.facts
  obtain ⟨xp1, yp1, zp1, vp1⟩ := Bp1.facts
  go_wp2_with fail
  clear xt yt zt vt xa ya za va xb yb zb vb xr yr zr vr xp0 yp0 zp0 vp0 xp1 yp1 zp1 vp1
  try rw [rounds_succ]
  obtain ⟨xt, yt, zt, vt⟩ := Bt.facts
  obtain ⟨xa, ya, za, va⟩ := Ba.facts
  obtain ⟨xb, yb, zb, vb⟩ := Bb.facts
  obtain ⟨xr, yr, zr, vr⟩ := Br.facts
  obtain ⟨xp0, yp0, zp0, vp0⟩ := Bp0.facts
  obtain ⟨xp1, yp1, zp1, vp1⟩ := Bp1.facts
  go_wp2_with fail
  refine bodyPost_ret (v := .agg #[.int .i64 T.C.x, .int .i64 T.C.y]) (by simp [results, Try.results56, go_sem, xr]) rfl ⟨rfl, by have hl := hw.size; go_grown⟩

end Go.Proofs.Ytaegobkkcgheeaa
