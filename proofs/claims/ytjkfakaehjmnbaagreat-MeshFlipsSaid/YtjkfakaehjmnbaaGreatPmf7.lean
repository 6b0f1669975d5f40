/- Put together: MesF, MesU, TrC, CdtB, MesG. -/
import Derived.Test.YtjkfakaehjmnbaaGreatRows
import Derived.Test.YtjkfakaehjmnbaaGreatPmf6
import Derived.Test.YtjkfakaehjmnbaaGreatPmf1
import Derived.WalkKit
import Derived.WalkSpells
import Derived.WalkLawsBesides
import Derived.Laws.Externs
import Derived.Deep.QuietTactic
import Derived.BigQuiet
import Derived.Lib.Hide
import Derived.Handy
import Derived.Maps.OwnSet
import Derived.Maps.OwnOps
import Derived.LoopN
import Derived.RegionTactic
set_option maxRecDepth 100000
set_option maxHeartbeats 8000000
namespace Go.Proofs.YtjkfakaehjmnbaaGreat
open Go.RowKit Go.Sort
attribute [local go_sem] rOper rAt rUpon cell_set sg_i64 sg_u64 alloc_cell alloc_frozen
attribute [local go_sem 10000] pt_eql pt_neq tri_eql
attribute [local irreducible] rWalk
theorem mk_map (n : Int) (w : World) : (Instr.makeMap 96 (some (.int .i64 n))).run Tryz.prog w = .ok (.map (some w.heap.size)) (w.alloc (.map #[] 0)) := by
 unfold Instr.makeMap;simp [asIntOf, go_sem]
attribute [local go_sem] mk_map map_nil
theorem HoldsMap.box {w : World} {b : Nat} {E : Es} (H : HoldsMap eW eT okW w b E) {cs : List Value} {T : TypeId} : HoldsMap eW eT okW (w.alloc (.cells cs.toArray T)) b E := H.alloc _
theorem mnew_1 (a : Option Addr) (cap n : Nat) (L : List Tri3) (hn : Hid (L.length = n)) (hn1 : n ≤ 1000000) (hok : ∀ T ∈ L, okT T) (hx : (putRun [] L).1 = n) (w : World) (Hr : RowAt cT 6 w a L) :
    Calls Tryz.prog 12 #[.slice a n cap] w fun e w' => ∃ mb b, e = .returned (.tuple #[.pointer (some ⟨mb, 0, none⟩), .int .i64 0]) ∧ Box w' mb [.map (some b)] 98 ∧ HoldsMap eW eT okW w' b (putRun [] L).2 ∧ w.heap.size ≤ b ∧ w.heap.size ≤ mb ∧ Below w.heap.size w w' := by
 have cp := fun w' B H R => zEa (w.heap.size + 1) w.heap.size [] a cap n L hn hn1 hok w' B H R;obtain ⟨r, E, hr⟩ : ∃ r E, putRun [] L = (r, E) := ⟨_, _, rfl⟩;rw [hr] at cp hx;dsimp only at cp hx;have HR := Lib.hid hr;clear hr;subst hx;have hd : decide ((r : Int) < (r : Int)) = false := by simp
 go_enter Tryz.func12, Tryz.ntmps12
 go_wp2_with fail;refine zA1 fun W1 hW => ?_;have BM : Box W1 (w.heap.size + 1) [.map (some w.heap.size)] 98 := by rw [hW]; exact Box.new (by simp)
 have HM : HoldsMap eW eT okW W1 w.heap.size ([] : Es) := by rw [hW]; exact (HoldsMap.made w).alloc _
 have hw : Below w.heap.size w W1 := by rw [hW]; go_grown
 clear hW;refine (cp _ BM HM (Hr.ee hw)).mono ?_;rintro e w2 ⟨rfl, hg, H2⟩;have B2 := BM.turn HM hg;replace hw := zAi hw hg hw.size (Nat.le_refl _);clear hg HM BM;go_wp2
 go_ret2
 exact ⟨_, _, rfl, B2, by rw [HR.out]; exact H2, Nat.le_refl _, by omega, hw⟩
theorem mnew_0 (a : Option Addr) (cap n : Nat) (L : List Tri3) (hn : Hid (L.length = n)) (hn1 : n ≤ 1000000) (hok : ∀ T ∈ L, okT T) (hx : (putRun [] L).1 < n) (w : World) (Hr : RowAt cT 6 w a L) :
    Calls Tryz.prog 12 #[.slice a n cap] w fun e w' => e = .returned (.tuple #[.pointer none, .int .i64 2]) ∧ Below w.heap.size w w' := by
 have cp := fun w' B H R => zEa (w.heap.size + 1) w.heap.size [] a cap n L hn hn1 hok w' B H R;obtain ⟨r, E, hr⟩ : ∃ r E, putRun [] L = (r, E) := ⟨_, _, rfl⟩;rw [hr] at cp hx;dsimp only at cp hx;have HR := Lib.hid hr;clear hr;have hd : decide (r < n) = true := by simp; omega
 clear hx
 go_enter Tryz.func12, Tryz.ntmps12
 go_wp2_with fail;refine zA1 fun W1 hW => ?_;have BM : Box W1 (w.heap.size + 1) [.map (some w.heap.size)] 98 := by rw [hW]; exact Box.new (by simp)
 have HM : HoldsMap eW eT okW W1 w.heap.size ([] : Es) := by rw [hW]; exact (HoldsMap.made w).alloc _
 have hw : Below w.heap.size w W1 := by rw [hW]; go_grown
 clear hW;refine (cp _ BM HM (Hr.ee hw)).mono ?_;rintro e w2 ⟨rfl, hg, H2⟩;have B2 := BM.turn HM hg;replace hw := zAi hw hg hw.size (Nat.le_refl _);clear hg HM BM;go_wp2
 go_ret2
 exact ⟨rfl, hw⟩
theorem zFc (mb b : Nat) (E : Es) (k : Nat) (hE : Hid (E.length = 3 * k)) (hk : k ≤ 1000000) (w : World) (Bm : Box w mb [.map (some b)] 98) (Hm : HoldsMap eW eT okW w b E) :
    Calls Tryz.prog 14 #[.pointer (some ⟨mb, 0, none⟩)] w fun e w' => e = .returned (.int .i64 k) ∧ Below w.heap.size w w' := by
 have Fm := Bm.f
 go_enter Tryz.func14, Tryz.ntmps14
 go_wp2_with (at_len; refine zFt _ rfl _ rfl kvM rfl Hm ?_; rw [hE.out])
 go_ret
 exact ⟨zAu (by first | omega | (push_cast; omega)), Below.refl _ _⟩
theorem zEl {T : Tri3} (h : okT T) (i : Int) : okP (crn T i) := by
 unfold crn; split
 ·exact h.1
 ·split
  ·exact h.2.1
  ·exact h.2.2
theorem across_1 (mb b : Nat) (E : Es) (T : Tri3) (i : Int) (hk : okT T) (hh : hasE E T = true) (w : World) (Bm : Box w mb [.map (some b)] 98) (Hm : HoldsMap eW eT okW w b E) :
    Calls Tryz.prog 44 #[.pointer (some ⟨mb, 0, none⟩), .agg #[.int .i64 T.A.x, .int .i64 T.A.y, .int .i64 T.B.x, .int .i64 T.B.y, .int .i64 T.C.x, .int .i64 T.C.y], .int .i64 i] w fun e w' => e = .returned (.tuple #[eT (lftE E (crn T (i + 1)) (crn T i)).1, .bool (lftE E (crn T (i + 1)) (crn T i)).2]) ∧ Below w.heap.size w w' := by
 have ch := zFd mb b E T hk;rw [hh] at ch;clear hh;have cl := zJq mb b E (crn T (i + 1)) (crn T i) ⟨zEl hk _, zEl hk _⟩;have ce := zJz T i;generalize lftE E (crn T (i + 1)) (crn T i) = sv at *
 obtain ⟨S, v⟩ := sv;dsimp only at *;generalize crn T i = P at *
 generalize crn T (i + 1) = Q at *
 go_enter Tryz.func44, Tryz.ntmps44
 go_wp2_with fail;refine zA1 fun W1 hW => ?_;obtain ⟨Bt, Br, hw⟩ := N2 hW;clear hW;refine (ch _ (Bm.ee hw) (Hm.ee hw)).mono ?_;rintro e w2 ⟨rfl, hb⟩;obtain ⟨Bt, Br, hw, -⟩ := X2 Bt Br hw hb;clear hb;have Ft := Bt.f;have Fr := Br.f;go_wp2_with fail;refine (ce _).mono ?_;rintro e w3 ⟨rfl, hb⟩;clear Ft Fr;obtain ⟨Bt, Br, hw, -⟩ := X2 Bt Br hw hb;clear hb;have Ft := Bt.f;have Fr := Br.f;go_wp2_with fail;refine zA1 fun W4 hW => ?_;obtain ⟨bkp, hbp⟩ : ∃ b, w3.heap.size = b := ⟨_, rfl⟩;rw [hbp];have ltp := Bt.lt;rw [hbp] at ltp;have lrp := Br.lt;rw [hbp] at lrp;have fp := hw.size;rw [hbp] at fp;have Bp : Box W4 (bkp) [.int .i64 P.x, .int .i64 P.y] 30 := by rw [hW, ← hbp]; exact (Box.new rfl).old _
 have Bq : Box W4 (bkp + 1) [.int .i64 Q.x, .int .i64 Q.y] 30 := by rw [hW, ← hbp]; exact Box.new (by simp)
 replace Bt : Box W4 (w.heap.size) [.int .i64 T.A.x, .int .i64 T.A.y, .int .i64 T.B.x, .int .i64 T.B.y, .int .i64 T.C.x, .int .i64 T.C.y] 43 := by rw [hW]; exact ((Bt).old _).old _
 replace Br : Box W4 (w.heap.size + 1) [.int .i64 0, .int .i64 0, .int .i64 0, .int .i64 0, .int .i64 0, .int .i64 0] 43 := by rw [hW]; exact ((Br).old _).old _
 replace hw : Below w.heap.size w W4 := by have hl := hw.size; rw [hW]; go_grown
 clear hW hbp;refine (cl _ (Bm.ee hw) (Hm.ee hw)).mono ?_;rintro e w5 ⟨rfl, hb⟩;clear Ft Fr;obtain ⟨Bt, Br, Bp, Bq, hw, -⟩ := X4 Bt Br Bp Bq hw hb;clear hb;have Ft := Bt.f;have Fr := Br.f;have Fp := Bp.f;have Fq := Bq.f;go_wp2_with fail;refine bodyPost_ret (v := .tuple #[.agg #[.int .i64 S.A.x, .int .i64 S.A.y, .int .i64 S.B.x, .int .i64 S.B.y, .int .i64 S.C.x, .int .i64 S.C.y], .bool v]) (by simp [results, Tryz.results44, go_sem, Fr]) rfl ⟨rfl, by have hl := hw.size; go_grown⟩
theorem across_0 (mb b : Nat) (E : Es) (T : Tri3) (i : Int) (hk : okT T) (hh : hasE E T = false) (w : World) (Bm : Box w mb [.map (some b)] 98) (Hm : HoldsMap eW eT okW w b E) :
    Calls Tryz.prog 44 #[.pointer (some ⟨mb, 0, none⟩), .agg #[.int .i64 T.A.x, .int .i64 T.A.y, .int .i64 T.B.x, .int .i64 T.B.y, .int .i64 T.C.x, .int .i64 T.C.y], .int .i64 i] w fun e w' => e = .returned (.tuple #[.agg #[.int .i64 0, .int .i64 0, .int .i64 0, .int .i64 0, .int .i64 0, .int .i64 0], .bool false]) ∧ Below w.heap.size w w' := by
 have ch := zFd mb b E T hk;rw [hh] at ch;clear hh
 go_enter Tryz.func44, Tryz.ntmps44
 go_wp2_with fail;refine zA1 fun W1 hW => ?_;obtain ⟨Bt, Br, hw⟩ := N2 hW;clear hW;refine (ch _ (Bm.ee hw) (Hm.ee hw)).mono ?_;rintro e w2 ⟨rfl, hb⟩;obtain ⟨Bt, Br, hw, -⟩ := X2 Bt Br hw hb;clear hb;have Ft := Bt.f;have Fr := Br.f;go_wp2_with fail;refine bodyPost_ret (v := .tuple #[.agg #[.int .i64 0, .int .i64 0, .int .i64 0, .int .i64 0, .int .i64 0, .int .i64 0], .bool false]) (by simp [results, Tryz.results44, go_sem, Fr]) rfl ⟨rfl, by have hl := hw.size; go_grown⟩
def acrE (E : Es) (T : Tri3) (i : Int) : Tri3 × Bool := if hasE E T = true then lftE E (crn T (i + 1)) (crn T i) else (⟨⟨0, 0⟩, ⟨0, 0⟩, ⟨0, 0⟩⟩, false)
theorem zFp (mb b : Nat) (E : Es) (T : Tri3) (i : Int) (hk : okT T) (w : World) (Bm : Box w mb [.map (some b)] 98) (Hm : HoldsMap eW eT okW w b E) :
    Calls Tryz.prog 44 #[.pointer (some ⟨mb, 0, none⟩), .agg #[.int .i64 T.A.x, .int .i64 T.A.y, .int .i64 T.B.x, .int .i64 T.B.y, .int .i64 T.C.x, .int .i64 T.C.y], .int .i64 i] w fun e w' => e = .returned (.tuple #[eT (acrE E T i).1, .bool (acrE E T i).2]) ∧ Below w.heap.size w w' := by
 unfold acrE;cases hh : hasE E T with
 | true => rw [if_pos rfl]; exact across_1 mb b E T i hk hh w Bm Hm
 | false => rw [if_neg (by decide)]; exact across_0 mb b E T i hk hh w Bm Hm
end Go.Proofs.YtjkfakaehjmnbaaGreat
namespace Go.Proofs.YtjkfakaehjmnbaaGreat
open Go.RowKit Go.Sort
attribute [local go_sem] rOper rAt rUpon cell_set sg_i64 sg_u64 alloc_cell alloc_frozen
attribute [local go_sem 10000] pt_eql pt_neq tri_eql
attribute [local irreducible] rWalk
def apx (T : Tri3) (a b : Pt) : Pt := if peqI T.A.x T.A.y a.x a.y = false ∧ peqI T.A.x T.A.y b.x b.y = false then T.A else if peqI T.B.x T.B.y a.x a.y = false ∧ peqI T.B.x T.B.y b.x b.y = false then T.B else T.C
theorem cor_0 (T : Tri3) (w : World) : Calls Tryz.prog 101 #[.agg #[.int .i64 T.A.x, .int .i64 T.A.y, .int .i64 T.B.x, .int .i64 T.B.y, .int .i64 T.C.x, .int .i64 T.C.y], .int .i64 0] w fun e w' => e = .returned (.agg #[.int .i64 T.A.x, .int .i64 T.A.y]) ∧ Below w.heap.size w w' := zE1 T 0 w
theorem cor_1 (T : Tri3) (w : World) : Calls Tryz.prog 101 #[.agg #[.int .i64 T.A.x, .int .i64 T.A.y, .int .i64 T.B.x, .int .i64 T.B.y, .int .i64 T.C.x, .int .i64 T.C.y], .int .i64 1] w fun e w' => e = .returned (.agg #[.int .i64 T.B.x, .int .i64 T.B.y]) ∧ Below w.heap.size w w' := zE1 T 1 w
theorem apex_0 (T : Tri3) (a b : Pt) (ha0 : peqI T.A.x T.A.y a.x a.y = false) (hb0 : peqI T.A.x T.A.y b.x b.y = false) (w : World) :
    Calls Tryz.prog 54 #[.agg #[.int .i64 T.A.x, .int .i64 T.A.y, .int .i64 T.B.x, .int .i64 T.B.y, .int .i64 T.C.x, .int .i64 T.C.y], .agg #[.int .i64 a.x, .int .i64 a.y], .agg #[.int .i64 b.x, .int .i64 b.y]] w fun e w' => e = .returned (.agg #[.int .i64 T.A.x, .int .i64 T.A.y]) ∧ Below w.heap.size w w' := by
 have cc0 := cor_0 T
 go_enter Tryz.func54, Tryz.ntmps54
 go_wp2_with fail;refine zA2 fun W1 hW => ?_;obtain ⟨Bt, Ba, Bb, Br, hw⟩ := N4 hW;clear hW;refine wp_loop_rounds 4 ?_;try rw [rounds_succ]
 obtain ⟨xt, yt, zt, vt⟩ := Bt.f;obtain ⟨xa, ya, za, va⟩ := Ba.f;obtain ⟨xb, yb, zb, vb⟩ := Bb.f;obtain ⟨xr, yr, zr, vr⟩ := Br.f;go_wp2_with fail;refine (cc0 _).mono ?_;rintro e w2 ⟨rfl, hb⟩;clear xt yt zt vt xa ya za va xb yb zb vb xr yr zr vr;obtain ⟨Bt, Ba, Bb, Br, hw, -⟩ := X4 Bt Ba Bb Br hw hb;clear hb;obtain ⟨xt, yt, zt, vt⟩ := Bt.f;obtain ⟨xa, ya, za, va⟩ := Ba.f;obtain ⟨xb, yb, zb, vb⟩ := Bb.f;obtain ⟨xr, yr, zr, vr⟩ := Br.f;go_wp2_with fail;refine bodyPost_ret (v := .agg #[.int .i64 T.A.x, .int .i64 T.A.y]) (by simp [results, Tryz.results54, go_sem, xr, zr]) rfl ⟨rfl, by have hl := hw.size; go_grown⟩
theorem apex_10 (T : Tri3) (a b : Pt) (ha0 : peqI T.A.x T.A.y a.x a.y = true) (ha1 : peqI T.B.x T.B.y a.x a.y = false) (hb1 : peqI T.B.x T.B.y b.x b.y = false) (w : World) :
    Calls Tryz.prog 54 #[.agg #[.int .i64 T.A.x, .int .i64 T.A.y, .int .i64 T.B.x, .int .i64 T.B.y, .int .i64 T.C.x, .int .i64 T.C.y], .agg #[.int .i64 a.x, .int .i64 a.y], .agg #[.int .i64 b.x, .int .i64 b.y]] w fun e w' => e = .returned (.agg #[.int .i64 T.B.x, .int .i64 T.B.y]) ∧ Below w.heap.size w w' := by
 have cc0 := cor_0 T;have cc1 := cor_1 T
 go_enter Tryz.func54, Tryz.ntmps54
 go_wp2_with fail;refine zA2 fun W1 hW => ?_;obtain ⟨Bt, Ba, Bb, Br, hw⟩ := N4 hW;clear hW;refine wp_loop_rounds 4 ?_;try rw [rounds_succ]
 obtain ⟨xt, yt, zt, vt⟩ := Bt.f;obtain ⟨xa, ya, za, va⟩ := Ba.f;obtain ⟨xb, yb, zb, vb⟩ := Bb.f;obtain ⟨xr, yr, zr, vr⟩ := Br.f;go_wp2_with fail;refine (cc0 _).mono ?_;rintro e w2 ⟨rfl, hb⟩;clear xt yt zt vt xa ya za va xb yb zb vb xr yr zr vr;obtain ⟨Bt, Ba, Bb, Br, hw, -⟩ := X4 Bt Ba Bb Br hw hb;clear hb;obtain ⟨xt, yt, zt, vt⟩ := Bt.f;obtain ⟨xa, ya, za, va⟩ := Ba.f;obtain ⟨xb, yb, zb, vb⟩ := Bb.f;obtain ⟨xr, yr, zr, vr⟩ := Br.f;go_wp2_with fail;clear xt yt zt vt xa ya za va xb yb zb vb xr yr zr vr;refine zA2 fun W3 hW => ?_;obtain ⟨bkp0, hbp0⟩ : ∃ b, w2.heap.size = b := ⟨_, rfl⟩;rw [hbp0];obtain ⟨ltp0, lap0, lbp0, lrp0, fp0, Bp0, Bt, Ba, Bb, Br, hw⟩ := M4 hW hbp0 Bt Ba Bb Br hw;clear hW hbp0;obtain ⟨xt, yt, zt, vt⟩ := Bt.f;obtain ⟨xa, ya, za, va⟩ := Ba.f;obtain ⟨xb, yb, zb, vb⟩ := Bb.f;obtain ⟨xr, yr, zr, vr⟩ := Br.f;obtain ⟨xp0, yp0, zp0, vp0⟩ := Bp0.f;go_wp2_with fail;clear xt yt zt vt xa ya za va xb yb zb vb xr yr zr vr xp0 yp0 zp0 vp0;try rw [rounds_succ]
 obtain ⟨xt, yt, zt, vt⟩ := Bt.f;obtain ⟨xa, ya, za, va⟩ := Ba.f;obtain ⟨xb, yb, zb, vb⟩ := Bb.f;obtain ⟨xr, yr, zr, vr⟩ := Br.f;obtain ⟨xp0, yp0, zp0, vp0⟩ := Bp0.f;go_wp2_with fail;refine (cc1 _).mono ?_;rintro e w4 ⟨rfl, hb⟩;clear xt yt zt vt xa ya za va xb yb zb vb xr yr zr vr xp0 yp0 zp0 vp0;obtain ⟨Bt, Ba, Bb, Br, Bp0, hw, -⟩ := X5 Bt Ba Bb Br Bp0 hw hb;clear hb;obtain ⟨xt, yt, zt, vt⟩ := Bt.f;obtain ⟨xa, ya, za, va⟩ := Ba.f;obtain ⟨xb, yb, zb, vb⟩ := Bb.f;obtain ⟨xr, yr, zr, vr⟩ := Br.f;obtain ⟨xp0, yp0, zp0, vp0⟩ := Bp0.f;go_wp2_with fail;refine bodyPost_ret (v := .agg #[.int .i64 T.B.x, .int .i64 T.B.y]) (by simp [results, Tryz.results54, go_sem, xr, zr]) rfl ⟨rfl, by have hl := hw.size; go_grown⟩
theorem apex_11 (T : Tri3) (a b : Pt) (ha0 : peqI T.A.x T.A.y a.x a.y = true) (ha1 : peqI T.B.x T.B.y a.x a.y = true) (w : World) :
    Calls Tryz.prog 54 #[.agg #[.int .i64 T.A.x, .int .i64 T.A.y, .int .i64 T.B.x, .int .i64 T.B.y, .int .i64 T.C.x, .int .i64 T.C.y], .agg #[.int .i64 a.x, .int .i64 a.y], .agg #[.int .i64 b.x, .int .i64 b.y]] w fun e w' => e = .returned (.agg #[.int .i64 T.C.x, .int .i64 T.C.y]) ∧ Below w.heap.size w w' := by
 have cc0 := cor_0 T;have cc1 := cor_1 T
 go_enter Tryz.func54, Tryz.ntmps54
 go_wp2_with fail;refine zA2 fun W1 hW => ?_;obtain ⟨Bt, Ba, Bb, Br, hw⟩ := N4 hW;clear hW;refine wp_loop_rounds 4 ?_;try rw [rounds_succ]
 have Ft := Bt.f;have Fa := Ba.f;have Fb := Bb.f;have Fr := Br.f;go_wp2_with fail;refine (cc0 _).mono ?_;rintro e w2 ⟨rfl, hb⟩;clear Ft Fa Fb Fr;obtain ⟨Bt, Ba, Bb, Br, hw, -⟩ := X4 Bt Ba Bb Br hw hb;clear hb;have Ft := Bt.f;have Fa := Ba.f;have Fb := Bb.f;have Fr := Br.f;go_wp2_with fail;clear Ft Fa Fb Fr;refine zA2 fun W3 hW => ?_;obtain ⟨bkp0, hbp0⟩ : ∃ b, w2.heap.size = b := ⟨_, rfl⟩;rw [hbp0];obtain ⟨ltp0, lap0, lbp0, lrp0, fp0, Bp0, Bt, Ba, Bb, Br, hw⟩ := M4 hW hbp0 Bt Ba Bb Br hw;clear hW hbp0;have Ft := Bt.f;have Fa := Ba.f;have Fb := Bb.f;have Fr := Br.f;have Fp0 := Bp0.f;go_wp2_with fail;clear Ft Fa Fb Fr Fp0;try rw [rounds_succ]
 have Ft := Bt.f;have Fa := Ba.f;have Fb := Bb.f;have Fr := Br.f;have Fp0 := Bp0.f;go_wp2_with fail;refine (cc1 _).mono ?_;rintro e w4 ⟨rfl, hb⟩;clear Ft Fa Fb Fr Fp0;obtain ⟨Bt, Ba, Bb, Br, Bp0, hw, -⟩ := X5 Bt Ba Bb Br Bp0 hw hb;clear hb;have Ft := Bt.f;have Fa := Ba.f;have Fb := Bb.f;have Fr := Br.f;have Fp0 := Bp0.f;go_wp2_with fail;clear Ft Fa Fb Fr Fp0;refine zA2 fun W5 hW => ?_;obtain ⟨bkp1, hbp1⟩ : ∃ b, w4.heap.size = b := ⟨_, rfl⟩;rw [hbp1];obtain ⟨ltp1, lap1, lbp1, lrp1, lp0p1, fp1, Bp1, Bt, Ba, Bb, Br, Bp0, hw⟩ := M5 hW hbp1 Bt Ba Bb Br Bp0 hw;clear hW hbp1;have Ft := Bt.f;have Fa := Ba.f;have Fb := Bb.f;have Fr := Br.f;have Fp0 := Bp0.f;have Fp1 := Bp1.f;go_wp2_with fail;clear Ft Fa Fb Fr Fp0 Fp1;try rw [rounds_succ]
 have Ft := Bt.f;have Fa := Ba.f;have Fb := Bb.f;have Fr := Br.f;have Fp0 := Bp0.f;have Fp1 := Bp1.f;go_wp2_with fail;refine bodyPost_ret (v := .agg #[.int .i64 T.C.x, .int .i64 T.C.y]) (by simp [results, Tryz.results54, go_sem, Fr]) rfl ⟨rfl, by have hl := hw.size; go_grown⟩
theorem apex_12 (T : Tri3) (a b : Pt) (ha0 : peqI T.A.x T.A.y a.x a.y = true) (ha1 : peqI T.B.x T.B.y a.x a.y = false) (hb1 : peqI T.B.x T.B.y b.x b.y = true) (w : World) :
    Calls Tryz.prog 54 #[.agg #[.int .i64 T.A.x, .int .i64 T.A.y, .int .i64 T.B.x, .int .i64 T.B.y, .int .i64 T.C.x, .int .i64 T.C.y], .agg #[.int .i64 a.x, .int .i64 a.y], .agg #[.int .i64 b.x, .int .i64 b.y]] w fun e w' => e = .returned (.agg #[.int .i64 T.C.x, .int .i64 T.C.y]) ∧ Below w.heap.size w w' := by
 have cc0 := cor_0 T;have cc1 := cor_1 T
 go_enter Tryz.func54, Tryz.ntmps54
 go_wp2_with fail;refine zA2 fun W1 hW => ?_;obtain ⟨Bt, Ba, Bb, Br, hw⟩ := N4 hW;clear hW;refine wp_loop_rounds 4 ?_;try rw [rounds_succ]
 have Ft := Bt.f;have Fa := Ba.f;have Fb := Bb.f;have Fr := Br.f;go_wp2_with fail;refine (cc0 _).mono ?_;rintro e w2 ⟨rfl, hb⟩;clear Ft Fa Fb Fr;obtain ⟨Bt, Ba, Bb, Br, hw, -⟩ := X4 Bt Ba Bb Br hw hb;clear hb;have Ft := Bt.f;have Fa := Ba.f;have Fb := Bb.f;have Fr := Br.f;go_wp2_with fail;clear Ft Fa Fb Fr;refine zA2 fun W3 hW => ?_;obtain ⟨bkp0, hbp0⟩ : ∃ b, w2.heap.size = b := ⟨_, rfl⟩;rw [hbp0];obtain ⟨ltp0, lap0, lbp0, lrp0, fp0, Bp0, Bt, Ba, Bb, Br, hw⟩ := M4 hW hbp0 Bt Ba Bb Br hw;clear hW hbp0;have Ft := Bt.f;have Fa := Ba.f;have Fb := Bb.f;have Fr := Br.f;have Fp0 := Bp0.f;go_wp2_with fail;clear Ft Fa Fb Fr Fp0;try rw [rounds_succ]
 have Ft := Bt.f;have Fa := Ba.f;have Fb := Bb.f;have Fr := Br.f;have Fp0 := Bp0.f;go_wp2_with fail;refine (cc1 _).mono ?_;rintro e w4 ⟨rfl, hb⟩;clear Ft Fa Fb Fr Fp0;obtain ⟨Bt, Ba, Bb, Br, Bp0, hw, -⟩ := X5 Bt Ba Bb Br Bp0 hw hb;clear hb;have Ft := Bt.f;have Fa := Ba.f;have Fb := Bb.f;have Fr := Br.f;have Fp0 := Bp0.f;go_wp2_with fail;clear Ft Fa Fb Fr Fp0;refine zA2 fun W5 hW => ?_;obtain ⟨bkp1, hbp1⟩ : ∃ b, w4.heap.size = b := ⟨_, rfl⟩;rw [hbp1];obtain ⟨ltp1, lap1, lbp1, lrp1, lp0p1, fp1, Bp1, Bt, Ba, Bb, Br, Bp0, hw⟩ := M5 hW hbp1 Bt Ba Bb Br Bp0 hw;clear hW hbp1;have Ft := Bt.f;have Fa := Ba.f;have Fb := Bb.f;have Fr := Br.f;have Fp0 := Bp0.f;have Fp1 := Bp1.f;go_wp2_with fail;clear Ft Fa Fb Fr Fp0 Fp1;try rw [rounds_succ]
 have Ft := Bt.f;have Fa := Ba.f;have Fb := Bb.f;have Fr := Br.f;have Fp0 := Bp0.f;have Fp1 := Bp1.f;go_wp2_with fail;refine bodyPost_ret (v := .agg #[.int .i64 T.C.x, .int .i64 T.C.y]) (by simp [results, Tryz.results54, go_sem, Fr]) rfl ⟨rfl, by have hl := hw.size; go_grown⟩
theorem apex_20 (T : Tri3) (a b : Pt) (ha0 : peqI T.A.x T.A.y a.x a.y = false) (hb0 : peqI T.A.x T.A.y b.x b.y = true) (ha1 : peqI T.B.x T.B.y a.x a.y = false) (hb1 : peqI T.B.x T.B.y b.x b.y = false) (w : World) :
    Calls Tryz.prog 54 #[.agg #[.int .i64 T.A.x, .int .i64 T.A.y, .int .i64 T.B.x, .int .i64 T.B.y, .int .i64 T.C.x, .int .i64 T.C.y], .agg #[.int .i64 a.x, .int .i64 a.y], .agg #[.int .i64 b.x, .int .i64 b.y]] w fun e w' => e = .returned (.agg #[.int .i64 T.B.x, .int .i64 T.B.y]) ∧ Below w.heap.size w w' := by
 have cc0 := cor_0 T;have cc1 := cor_1 T
 go_enter Tryz.func54, Tryz.ntmps54
 go_wp2_with fail;refine zA2 fun W1 hW => ?_;obtain ⟨Bt, Ba, Bb, Br, hw⟩ := N4 hW;clear hW;refine wp_loop_rounds 4 ?_;try rw [rounds_succ]
 obtain ⟨xt, yt, zt, vt⟩ := Bt.f;obtain ⟨xa, ya, za, va⟩ := Ba.f;obtain ⟨xb, yb, zb, vb⟩ := Bb.f;obtain ⟨xr, yr, zr, vr⟩ := Br.f;go_wp2_with fail;refine (cc0 _).mono ?_;rintro e w2 ⟨rfl, hb⟩;clear xt yt zt vt xa ya za va xb yb zb vb xr yr zr vr;obtain ⟨Bt, Ba, Bb, Br, hw, -⟩ := X4 Bt Ba Bb Br hw hb;clear hb;obtain ⟨xt, yt, zt, vt⟩ := Bt.f;obtain ⟨xa, ya, za, va⟩ := Ba.f;obtain ⟨xb, yb, zb, vb⟩ := Bb.f;obtain ⟨xr, yr, zr, vr⟩ := Br.f;go_wp2_with fail;clear xt yt zt vt xa ya za va xb yb zb vb xr yr zr vr;refine zA2 fun W3 hW => ?_;obtain ⟨bkp0, hbp0⟩ : ∃ b, w2.heap.size = b := ⟨_, rfl⟩;rw [hbp0];obtain ⟨ltp0, lap0, lbp0, lrp0, fp0, Bp0, Bt, Ba, Bb, Br, hw⟩ := M4 hW hbp0 Bt Ba Bb Br hw;clear hW hbp0;obtain ⟨xt, yt, zt, vt⟩ := Bt.f;obtain ⟨xa, ya, za, va⟩ := Ba.f;obtain ⟨xb, yb, zb, vb⟩ := Bb.f;obtain ⟨xr, yr, zr, vr⟩ := Br.f;obtain ⟨xp0, yp0, zp0, vp0⟩ := Bp0.f;go_wp2_with fail;clear xt yt zt vt xa ya za va xb yb zb vb xr yr zr vr xp0 yp0 zp0 vp0;try rw [rounds_succ]
 obtain ⟨xt, yt, zt, vt⟩ := Bt.f;obtain ⟨xa, ya, za, va⟩ := Ba.f;obtain ⟨xb, yb, zb, vb⟩ := Bb.f;obtain ⟨xr, yr, zr, vr⟩ := Br.f;obtain ⟨xp0, yp0, zp0, vp0⟩ := Bp0.f;go_wp2_with fail;refine (cc1 _).mono ?_;rintro e w4 ⟨rfl, hb⟩;clear xt yt zt vt xa ya za va xb yb zb vb xr yr zr vr xp0 yp0 zp0 vp0;obtain ⟨Bt, Ba, Bb, Br, Bp0, hw, -⟩ := X5 Bt Ba Bb Br Bp0 hw hb;clear hb;obtain ⟨xt, yt, zt, vt⟩ := Bt.f;obtain ⟨xa, ya, za, va⟩ := Ba.f;obtain ⟨xb, yb, zb, vb⟩ := Bb.f;obtain ⟨xr, yr, zr, vr⟩ := Br.f;obtain ⟨xp0, yp0, zp0, vp0⟩ := Bp0.f;go_wp2_with fail;refine bodyPost_ret (v := .agg #[.int .i64 T.B.x, .int .i64 T.B.y]) (by simp [results, Tryz.results54, go_sem, xr, zr]) rfl ⟨rfl, by have hl := hw.size; go_grown⟩
theorem apex_21 (T : Tri3) (a b : Pt) (ha0 : peqI T.A.x T.A.y a.x a.y = false) (hb0 : peqI T.A.x T.A.y b.x b.y = true) (ha1 : peqI T.B.x T.B.y a.x a.y = true) (w : World) :
    Calls Tryz.prog 54 #[.agg #[.int .i64 T.A.x, .int .i64 T.A.y, .int .i64 T.B.x, .int .i64 T.B.y, .int .i64 T.C.x, .int .i64 T.C.y], .agg #[.int .i64 a.x, .int .i64 a.y], .agg #[.int .i64 b.x, .int .i64 b.y]] w fun e w' => e = .returned (.agg #[.int .i64 T.C.x, .int .i64 T.C.y]) ∧ Below w.heap.size w w' := by
 have cc0 := cor_0 T;have cc1 := cor_1 T
 go_enter Tryz.func54, Tryz.ntmps54
 go_wp2_with fail;refine zA2 fun W1 hW => ?_;obtain ⟨Bt, Ba, Bb, Br, hw⟩ := N4 hW;clear hW;refine wp_loop_rounds 4 ?_;try rw [rounds_succ]
 have Ft := Bt.f;have Fa := Ba.f;have Fb := Bb.f;have Fr := Br.f;go_wp2_with fail;refine (cc0 _).mono ?_;rintro e w2 ⟨rfl, hb⟩;clear Ft Fa Fb Fr;obtain ⟨Bt, Ba, Bb, Br, hw, -⟩ := X4 Bt Ba Bb Br hw hb;clear hb;have Ft := Bt.f;have Fa := Ba.f;have Fb := Bb.f;have Fr := Br.f;go_wp2_with fail;clear Ft Fa Fb Fr;refine zA2 fun W3 hW => ?_;obtain ⟨bkp0, hbp0⟩ : ∃ b, w2.heap.size = b := ⟨_, rfl⟩;rw [hbp0];obtain ⟨ltp0, lap0, lbp0, lrp0, fp0, Bp0, Bt, Ba, Bb, Br, hw⟩ := M4 hW hbp0 Bt Ba Bb Br hw;clear hW hbp0;have Ft := Bt.f;have Fa := Ba.f;have Fb := Bb.f;have Fr := Br.f;have Fp0 := Bp0.f;go_wp2_with fail;clear Ft Fa Fb Fr Fp0;try rw [rounds_succ]
 have Ft := Bt.f;have Fa := Ba.f;have Fb := Bb.f;have Fr := Br.f;have Fp0 := Bp0.f;go_wp2_with fail;refine (cc1 _).mono ?_;rintro e w4 ⟨rfl, hb⟩;clear Ft Fa Fb Fr Fp0;obtain ⟨Bt, Ba, Bb, Br, Bp0, hw, -⟩ := X5 Bt Ba Bb Br Bp0 hw hb;clear hb;have Ft := Bt.f;have Fa := Ba.f;have Fb := Bb.f;have Fr := Br.f;have Fp0 := Bp0.f;go_wp2_with fail;clear Ft Fa Fb Fr Fp0;refine zA2 fun W5 hW => ?_;obtain ⟨bkp1, hbp1⟩ : ∃ b, w4.heap.size = b := ⟨_, rfl⟩;rw [hbp1];obtain ⟨ltp1, lap1, lbp1, lrp1, lp0p1, fp1, Bp1, Bt, Ba, Bb, Br, Bp0, hw⟩ := M5 hW hbp1 Bt Ba Bb Br Bp0 hw;clear hW hbp1;have Ft := Bt.f;have Fa := Ba.f;have Fb := Bb.f;have Fr := Br.f;have Fp0 := Bp0.f;have Fp1 := Bp1.f;go_wp2_with fail;clear Ft Fa Fb Fr Fp0 Fp1;try rw [rounds_succ]
 have Ft := Bt.f;have Fa := Ba.f;have Fb := Bb.f;have Fr := Br.f;have Fp0 := Bp0.f;have Fp1 := Bp1.f;go_wp2_with fail;refine bodyPost_ret (v := .agg #[.int .i64 T.C.x, .int .i64 T.C.y]) (by simp [results, Tryz.results54, go_sem, Fr]) rfl ⟨rfl, by have hl := hw.size; go_grown⟩
theorem apex_22 (T : Tri3) (a b : Pt) (ha0 : peqI T.A.x T.A.y a.x a.y = false) (hb0 : peqI T.A.x T.A.y b.x b.y = true) (ha1 : peqI T.B.x T.B.y a.x a.y = false) (hb1 : peqI T.B.x T.B.y b.x b.y = true) (w : World) :
    Calls Tryz.prog 54 #[.agg #[.int .i64 T.A.x, .int .i64 T.A.y, .int .i64 T.B.x, .int .i64 T.B.y, .int .i64 T.C.x, .int .i64 T.C.y], .agg #[.int .i64 a.x, .int .i64 a.y], .agg #[.int .i64 b.x, .int .i64 b.y]] w fun e w' => e = .returned (.agg #[.int .i64 T.C.x, .int .i64 T.C.y]) ∧ Below w.heap.size w w' := by
 have cc0 := cor_0 T;have cc1 := cor_1 T
 go_enter Tryz.func54, Tryz.ntmps54
 go_wp2_with fail;refine zA2 fun W1 hW => ?_;obtain ⟨Bt, Ba, Bb, Br, hw⟩ := N4 hW;clear hW;refine wp_loop_rounds 4 ?_;try rw [rounds_succ]
 have Ft := Bt.f;have Fa := Ba.f;have Fb := Bb.f;have Fr := Br.f;go_wp2_with fail;refine (cc0 _).mono ?_;rintro e w2 ⟨rfl, hb⟩;clear Ft Fa Fb Fr;obtain ⟨Bt, Ba, Bb, Br, hw, -⟩ := X4 Bt Ba Bb Br hw hb;clear hb;have Ft := Bt.f;have Fa := Ba.f;have Fb := Bb.f;have Fr := Br.f;go_wp2_with fail;clear Ft Fa Fb Fr;refine zA2 fun W3 hW => ?_;obtain ⟨bkp0, hbp0⟩ : ∃ b, w2.heap.size = b := ⟨_, rfl⟩;rw [hbp0];obtain ⟨ltp0, lap0, lbp0, lrp0, fp0, Bp0, Bt, Ba, Bb, Br, hw⟩ := M4 hW hbp0 Bt Ba Bb Br hw;clear hW hbp0;have Ft := Bt.f;have Fa := Ba.f;have Fb := Bb.f;have Fr := Br.f;have Fp0 := Bp0.f;go_wp2_with fail;clear Ft Fa Fb Fr Fp0;try rw [rounds_succ]
 have Ft := Bt.f;have Fa := Ba.f;have Fb := Bb.f;have Fr := Br.f;have Fp0 := Bp0.f;go_wp2_with fail;refine (cc1 _).mono ?_;rintro e w4 ⟨rfl, hb⟩;clear Ft Fa Fb Fr Fp0;obtain ⟨Bt, Ba, Bb, Br, Bp0, hw, -⟩ := X5 Bt Ba Bb Br Bp0 hw hb;clear hb;have Ft := Bt.f;have Fa := Ba.f;have Fb := Bb.f;have Fr := Br.f;have Fp0 := Bp0.f;go_wp2_with fail;clear Ft Fa Fb Fr Fp0;refine zA2 fun W5 hW => ?_;obtain ⟨bkp1, hbp1⟩ : ∃ b, w4.heap.size = b := ⟨_, rfl⟩;rw [hbp1];obtain ⟨ltp1, lap1, lbp1, lrp1, lp0p1, fp1, Bp1, Bt, Ba, Bb, Br, Bp0, hw⟩ := M5 hW hbp1 Bt Ba Bb Br Bp0 hw;clear hW hbp1;have Ft := Bt.f;have Fa := Ba.f;have Fb := Bb.f;have Fr := Br.f;have Fp0 := Bp0.f;have Fp1 := Bp1.f;go_wp2_with fail;clear Ft Fa Fb Fr Fp0 Fp1;try rw [rounds_succ]
 have Ft := Bt.f;have Fa := Ba.f;have Fb := Bb.f;have Fr := Br.f;have Fp0 := Bp0.f;have Fp1 := Bp1.f;go_wp2_with fail;refine bodyPost_ret (v := .agg #[.int .i64 T.C.x, .int .i64 T.C.y]) (by simp [results, Tryz.results54, go_sem, Fr]) rfl ⟨rfl, by have hl := hw.size; go_grown⟩
theorem zJ8 : Tryz.prog.underlying 103 = some (.array 3 30) := by kernel_rfl
theorem idx_0 (a b c d e f : Value) (w : World) : (Instr.index 103 (.agg #[a, b, c, d, e, f]) (.int .i64 0)).run Tryz.prog w = .ok (.agg #[a, b]) w := by
 simp [Instr.index, run_underlying zJ8, asIntOf, part, go_sem]
theorem idx_1 (a b c d e f : Value) (w : World) : (Instr.index 103 (.agg #[a, b, c, d, e, f]) (.int .i64 1)).run Tryz.prog w = .ok (.agg #[c, d]) w := by
 simp [Instr.index, run_underlying zJ8, asIntOf, part, go_sem]
theorem idx_2 (a b c d e f : Value) (w : World) : (Instr.index 103 (.agg #[a, b, c, d, e, f]) (.int .i64 2)).run Tryz.prog w = .ok (.agg #[e, f]) w := by
 simp [Instr.index, run_underlying zJ8, asIntOf, part, go_sem]
attribute [local go_sem 10000] idx_0 idx_1 idx_2
theorem rcorner_0 (T : Tri3) (i : Int) (h : plc i = 0) (w : World) :
    Calls Tryz.prog 16 #[.agg #[.int .i64 T.A.x, .int .i64 T.A.y, .int .i64 T.B.x, .int .i64 T.B.y, .int .i64 T.C.x, .int .i64 T.C.y], .int .i64 i] w fun e w' => e = .returned (.agg #[.int .i64 T.A.x, .int .i64 T.A.y]) ∧ Below w.heap.size w w' := by
 have e := zGp i;rw [h] at e;have e2 : (IntKind.i64.wrap (i.tmod 3 + 3)).tmod 3 = 0 := by rw [← e, IntKind.wrap_i64, w64]
 clear h
 go_enter Tryz.func16, Tryz.ntmps16
 go_wp2_with fail;refine bodyPost_ret (v := .agg #[.int .i64 T.A.x, .int .i64 T.A.y]) (by simp [results, Tryz.results16, go_sem]) rfl ⟨rfl, by go_grown⟩
theorem rcorner_1 (T : Tri3) (i : Int) (h : plc i = 1) (w : World) :
    Calls Tryz.prog 16 #[.agg #[.int .i64 T.A.x, .int .i64 T.A.y, .int .i64 T.B.x, .int .i64 T.B.y, .int .i64 T.C.x, .int .i64 T.C.y], .int .i64 i] w fun e w' => e = .returned (.agg #[.int .i64 T.B.x, .int .i64 T.B.y]) ∧ Below w.heap.size w w' := by
 have e := zGp i;rw [h] at e;have e2 : (IntKind.i64.wrap (i.tmod 3 + 3)).tmod 3 = 1 := by rw [← e, IntKind.wrap_i64, w64]
 clear h
 go_enter Tryz.func16, Tryz.ntmps16
 go_wp2_with fail;refine bodyPost_ret (v := .agg #[.int .i64 T.B.x, .int .i64 T.B.y]) (by simp [results, Tryz.results16, go_sem]) rfl ⟨rfl, by go_grown⟩
theorem rcorner_2 (T : Tri3) (i : Int) (h : plc i = 2) (w : World) :
    Calls Tryz.prog 16 #[.agg #[.int .i64 T.A.x, .int .i64 T.A.y, .int .i64 T.B.x, .int .i64 T.B.y, .int .i64 T.C.x, .int .i64 T.C.y], .int .i64 i] w fun e w' => e = .returned (.agg #[.int .i64 T.C.x, .int .i64 T.C.y]) ∧ Below w.heap.size w w' := by
 have e := zGp i;rw [h] at e;have e2 : (IntKind.i64.wrap (i.tmod 3 + 3)).tmod 3 = 2 := by rw [← e, IntKind.wrap_i64, w64]
 clear h
 go_enter Tryz.func16, Tryz.ntmps16
 go_wp2_with fail;refine bodyPost_ret (v := .agg #[.int .i64 T.C.x, .int .i64 T.C.y]) (by simp [results, Tryz.results16, go_sem]) rfl ⟨rfl, by go_grown⟩
theorem zAm (T : Tri3) (i : Int) (w : World) :
    Calls Tryz.prog 16 #[.agg #[.int .i64 T.A.x, .int .i64 T.A.y, .int .i64 T.B.x, .int .i64 T.B.y, .int .i64 T.C.x, .int .i64 T.C.y], .int .i64 i] w fun e w' => e = .returned (.agg #[.int .i64 (crn T i).x, .int .i64 (crn T i).y]) ∧ Below w.heap.size w w' := by
 rcases zGo i with h | h | h
 ·rw [show crn T i = T.A by unfold crn; simp [h]]; exact rcorner_0 T i h w
 ·rw [show crn T i = T.B by unfold crn; simp [h]]; exact rcorner_1 T i h w
 ·rw [show crn T i = T.C by unfold crn; simp [h]]; exact rcorner_2 T i h w
def cmpT (S T : Tri3) : Int := if cmpP S.A T.A ≠ 0 then cmpP S.A T.A else if cmpP S.B T.B ≠ 0 then cmpP S.B T.B else cmpP S.C T.C
theorem rcmpT_0 (S T : Tri3) (h0 : ¬ cmpP S.A T.A = 0) (w : World) :
    Calls Tryz.prog 100 #[.agg #[.int .i64 S.A.x, .int .i64 S.A.y, .int .i64 S.B.x, .int .i64 S.B.y, .int .i64 S.C.x, .int .i64 S.C.y], .agg #[.int .i64 T.A.x, .int .i64 T.A.y, .int .i64 T.B.x, .int .i64 T.B.y, .int .i64 T.C.x, .int .i64 T.C.y]] w fun e w' => e = .returned (.int .i64 (cmpP S.A T.A)) ∧ Below w.heap.size w w' := by
 have c1 := zAd S.A T.A;have hd : (cmpP S.A T.A == 0) = false := by simpa using h0
 clear h0;generalize cmpP S.A T.A = n at *
 go_enter Tryz.func100, Tryz.ntmps100
 go_wp2_with fail;refine zA1 fun W1 hW => ?_;obtain ⟨Bs, Bt, hw⟩ := N2 hW;clear hW;refine (c1 _).mono ?_;rintro e w2 ⟨rfl, hb⟩;obtain ⟨Bs, Bt, hw, F_st⟩ := X2 Bs Bt hw hb;clear hb;go_wp2
 go_ret
 exact ⟨rfl, by have hl := hw.size; go_grown⟩
theorem rcmpT_1 (S T : Tri3) (h0 : cmpP S.A T.A = 0) (h1 : ¬ cmpP S.B T.B = 0) (w : World) :
    Calls Tryz.prog 100 #[.agg #[.int .i64 S.A.x, .int .i64 S.A.y, .int .i64 S.B.x, .int .i64 S.B.y, .int .i64 S.C.x, .int .i64 S.C.y], .agg #[.int .i64 T.A.x, .int .i64 T.A.y, .int .i64 T.B.x, .int .i64 T.B.y, .int .i64 T.C.x, .int .i64 T.C.y]] w fun e w' => e = .returned (.int .i64 (cmpP S.B T.B)) ∧ Below w.heap.size w w' := by
 have c1 := zAd S.A T.A;have c2 := zAd S.B T.B;rw [h0] at c1;have hd : (cmpP S.B T.B == 0) = false := by simpa using h1
 clear h0 h1;generalize cmpP S.B T.B = n at *
 go_enter Tryz.func100, Tryz.ntmps100
 go_wp2_with fail;refine zA1 fun W1 hW => ?_;obtain ⟨Bs, Bt, hw⟩ := N2 hW;clear hW;refine (c1 _).mono ?_;rintro e w2 ⟨rfl, hb⟩;obtain ⟨Bs, Bt, hw, F_st⟩ := X2 Bs Bt hw hb;clear hb;go_wp2_with fail;refine (c2 _).mono ?_;rintro e w3 ⟨rfl, hb⟩;clear F_st;obtain ⟨Bs, Bt, hw, F_st⟩ := X2 Bs Bt hw hb;clear hb;go_wp2
 go_ret
 exact ⟨rfl, by have hl := hw.size; go_grown⟩
theorem rcmpT_2 (S T : Tri3) (h0 : cmpP S.A T.A = 0) (h1 : cmpP S.B T.B = 0) (w : World) :
    Calls Tryz.prog 100 #[.agg #[.int .i64 S.A.x, .int .i64 S.A.y, .int .i64 S.B.x, .int .i64 S.B.y, .int .i64 S.C.x, .int .i64 S.C.y], .agg #[.int .i64 T.A.x, .int .i64 T.A.y, .int .i64 T.B.x, .int .i64 T.B.y, .int .i64 T.C.x, .int .i64 T.C.y]] w fun e w' => e = .returned (.int .i64 (cmpP S.C T.C)) ∧ Below w.heap.size w w' := by
 have c1 := zAd S.A T.A;have c2 := zAd S.B T.B;have c3 := zAd S.C T.C;rw [h0] at c1;rw [h1] at c2;clear h0 h1;generalize cmpP S.C T.C = n at *
 go_enter Tryz.func100, Tryz.ntmps100
 go_wp2_with fail;refine zA1 fun W1 hW => ?_;obtain ⟨Bs, Bt, hw⟩ := N2 hW;clear hW;refine (c1 _).mono ?_;rintro e w2 ⟨rfl, hb⟩;obtain ⟨Bs, Bt, hw, F_st⟩ := X2 Bs Bt hw hb;clear hb;go_wp2_with fail;refine (c2 _).mono ?_;rintro e w3 ⟨rfl, hb⟩;clear F_st;obtain ⟨Bs, Bt, hw, F_st⟩ := X2 Bs Bt hw hb;clear hb;go_wp2_with fail;refine (c3 _).mono ?_;rintro e w4 ⟨rfl, hb⟩;clear F_st;obtain ⟨Bs, Bt, hw, F_st⟩ := X2 Bs Bt hw hb;clear hb;go_wp2
 go_ret
 exact ⟨rfl, by have hl := hw.size; go_grown⟩
theorem rcmpT_any (S T : Tri3) (w : World) :
    Calls Tryz.prog 100 #[.agg #[.int .i64 S.A.x, .int .i64 S.A.y, .int .i64 S.B.x, .int .i64 S.B.y, .int .i64 S.C.x, .int .i64 S.C.y], .agg #[.int .i64 T.A.x, .int .i64 T.A.y, .int .i64 T.B.x, .int .i64 T.B.y, .int .i64 T.C.x, .int .i64 T.C.y]] w fun e w' => e = .returned (.int .i64 (cmpT S T)) ∧ Below w.heap.size w w' := by
 by_cases h0 : cmpP S.A T.A = 0
 ·by_cases h1 : cmpP S.B T.B = 0
  ·rw [show cmpT S T = cmpP S.C T.C by unfold cmpT; simp [h0, h1]]; exact rcmpT_2 S T h0 h1 w
  ·rw [show cmpT S T = cmpP S.B T.B by unfold cmpT; simp [h0, h1]]; exact rcmpT_1 S T h0 h1 w
 ·rw [show cmpT S T = cmpP S.A T.A by unfold cmpT; simp [h0]]; exact rcmpT_0 S T h0 w
def or3 (x y z : Int) : Int := if x ≠ 0 then x else if y ≠ 0 then y else z
theorem valT_vld {T : Tri3} (h : valT T = true) : vld T.A = true ∧ vld T.B = true ∧ vld T.C = true := by
 rw [zJ2] at h;unfold valS at h;simp only [Bool.and_eq_true, decide_eq_true_eq] at h;exact zCl (by omega)
end Go.Proofs.YtjkfakaehjmnbaaGreat
namespace Go.Proofs.YtjkfakaehjmnbaaGreat
open Go.RowKit Go.Sort
attribute [local go_sem] rOper rAt rUpon cell_set sg_i64 sg_u64 alloc_cell alloc_frozen
attribute [local go_sem 10000] pt_eql pt_neq tri_eql
attribute [local irreducible] rWalk
theorem zHu (T : Tri3) (w : World) : Calls Tryz.prog 16 #[.agg #[.int .i64 T.A.x, .int .i64 T.A.y, .int .i64 T.B.x, .int .i64 T.B.y, .int .i64 T.C.x, .int .i64 T.C.y], .int .i64 0] w fun e w' => e = .returned (.agg #[.int .i64 T.A.x, .int .i64 T.A.y]) ∧ Below w.heap.size w w' := zAm T 0 w
theorem zJ4 (T : Tri3) (w : World) : Calls Tryz.prog 16 #[.agg #[.int .i64 T.A.x, .int .i64 T.A.y, .int .i64 T.B.x, .int .i64 T.B.y, .int .i64 T.C.x, .int .i64 T.C.y], .int .i64 1] w fun e w' => e = .returned (.agg #[.int .i64 T.B.x, .int .i64 T.B.y]) ∧ Below w.heap.size w w' := zAm T 1 w
theorem far_0 (T : Tri3) (a b : Pt) (ha0 : peqI T.A.x T.A.y a.x a.y = false) (hb0 : peqI T.A.x T.A.y b.x b.y = false) (w : World) :
    Calls Tryz.prog 58 #[.agg #[.int .i64 T.A.x, .int .i64 T.A.y, .int .i64 T.B.x, .int .i64 T.B.y, .int .i64 T.C.x, .int .i64 T.C.y], .agg #[.int .i64 a.x, .int .i64 a.y], .agg #[.int .i64 b.x, .int .i64 b.y]] w fun e w' => e = .returned (.agg #[.int .i64 T.A.x, .int .i64 T.A.y]) ∧ Below w.heap.size w w' := by
 have cc0 := zHu T
 go_enter Tryz.func58, Tryz.ntmps58
 go_wp2_with fail;refine zA2 fun W1 hW => ?_;obtain ⟨Bt, Ba, Bb, Br, hw⟩ := N4 hW;clear hW;refine wp_loop_rounds 4 ?_;try rw [rounds_succ]
 have Ft := Bt.f;have Fa := Ba.f;have Fb := Bb.f;have Fr := Br.f;go_wp2_with fail;have g_tabr := J4 Bt.cells Ba.cells Bb.cells Br.cells;refine wrt 11 (by kernel_rfl) (by kernel_rfl) ?_;simp only [tK1, tK0, dP1, dP0];repeat (first | (refine zA0 (Eq.refl false) ?_; simp only [Act.put, sT2, sT1, sT0]) | (refine rWalk_step (fun K hK => ?_); go_simp; first | (refine hK _ ?_; clear hK K) | (apply Exists.intro; refine ⟨fun _ => ?_, hK _ ?_⟩; (first | with_reducible exact toExt cc0 _); clear hK K)))
 refine rWalk_nil ?_;intro w2 hb;clear g_tabr;clear Ft Fa Fb Fr;obtain ⟨Bt, Ba, Bb, Br, hw, -⟩ := X4 Bt Ba Bb Br hw hb;have Ft := Bt.f;have Fa := Ba.f;have Fb := Bb.f;have Fr := Br.f;go_wp2_with fail;refine (cc0 _).mono ?_;rintro e w3 ⟨rfl, hb⟩;clear Ft Fa Fb Fr;obtain ⟨Bt, Ba, Bb, Br, hw, -⟩ := X4 Bt Ba Bb Br hw hb;clear hb;have Ft := Bt.f;have Fa := Ba.f;have Fb := Bb.f;have Fr := Br.f;go_wp2_with fail;refine bodyPost_ret (v := .agg #[.int .i64 T.A.x, .int .i64 T.A.y]) (by simp [results, Tryz.results58, go_sem, Fr]) rfl ⟨rfl, by have hl := hw.size; go_grown⟩
theorem far_10 (T : Tri3) (a b : Pt) (ha0 : peqI T.A.x T.A.y a.x a.y = true) (ha1 : peqI T.B.x T.B.y a.x a.y = false) (hb1 : peqI T.B.x T.B.y b.x b.y = false) (w : World) :
    Calls Tryz.prog 58 #[.agg #[.int .i64 T.A.x, .int .i64 T.A.y, .int .i64 T.B.x, .int .i64 T.B.y, .int .i64 T.C.x, .int .i64 T.C.y], .agg #[.int .i64 a.x, .int .i64 a.y], .agg #[.int .i64 b.x, .int .i64 b.y]] w fun e w' => e = .returned (.agg #[.int .i64 T.B.x, .int .i64 T.B.y]) ∧ Below w.heap.size w w' := by
 have cc0 := zHu T;have cc1 := zJ4 T
 go_enter Tryz.func58, Tryz.ntmps58
 go_wp2_with fail;refine zA2 fun W1 hW => ?_;obtain ⟨Bt, Ba, Bb, Br, hw⟩ := N4 hW;clear hW;refine wp_loop_rounds 4 ?_;try rw [rounds_succ]
 have Ft := Bt.f;have Fa := Ba.f;have Fb := Bb.f;have Fr := Br.f;go_wp2_with fail;have g_tabr := J4 Bt.cells Ba.cells Bb.cells Br.cells;refine wrt 11 (by kernel_rfl) (by kernel_rfl) ?_;simp only [tK1, tK0, dP1, dP0];repeat (first | (refine zA0 (Eq.refl false) ?_; simp only [Act.put, sT2, sT1, sT0]) | (refine rWalk_step (fun K hK => ?_); go_simp; first | (refine hK _ ?_; clear hK K) | (apply Exists.intro; refine ⟨fun _ => ?_, hK _ ?_⟩; (first | with_reducible exact toExt cc0 _); clear hK K)))
 refine rWalk_nil ?_;intro w2 hb;clear g_tabr;clear Ft Fa Fb Fr;obtain ⟨Bt, Ba, Bb, Br, hw, -⟩ := X4 Bt Ba Bb Br hw hb;have Ft := Bt.f;have Fa := Ba.f;have Fb := Bb.f;have Fr := Br.f;go_wp2_with fail;clear Ft Fa Fb Fr;try rw [rounds_succ]
 have Ft := Bt.f;have Fa := Ba.f;have Fb := Bb.f;have Fr := Br.f;go_wp2_with fail;have g_tabr := J4 Bt.cells Ba.cells Bb.cells Br.cells;refine wrt 11 (by kernel_rfl) (by kernel_rfl) ?_;simp only [tK1, tK0, dP1, dP0];repeat (first | (refine zA0 (Eq.refl false) ?_; simp only [Act.put, sT2, sT1, sT0]) | (refine rWalk_step (fun K hK => ?_); go_simp; first | (refine hK _ ?_; clear hK K) | (apply Exists.intro; refine ⟨fun _ => ?_, hK _ ?_⟩; (first | with_reducible exact toExt cc1 _); clear hK K)))
 refine rWalk_nil ?_;intro w3 hb;clear g_tabr;clear Ft Fa Fb Fr;obtain ⟨Bt, Ba, Bb, Br, hw, -⟩ := X4 Bt Ba Bb Br hw hb;have Ft := Bt.f;have Fa := Ba.f;have Fb := Bb.f;have Fr := Br.f;go_wp2_with fail;refine (cc1 _).mono ?_;rintro e w4 ⟨rfl, hb⟩;clear Ft Fa Fb Fr;obtain ⟨Bt, Ba, Bb, Br, hw, -⟩ := X4 Bt Ba Bb Br hw hb;clear hb;have Ft := Bt.f;have Fa := Ba.f;have Fb := Bb.f;have Fr := Br.f;go_wp2_with fail;refine bodyPost_ret (v := .agg #[.int .i64 T.B.x, .int .i64 T.B.y]) (by simp [results, Tryz.results58, go_sem, Fr]) rfl ⟨rfl, by have hl := hw.size; go_grown⟩
theorem far_11 (T : Tri3) (a b : Pt) (ha0 : peqI T.A.x T.A.y a.x a.y = true) (ha1 : peqI T.B.x T.B.y a.x a.y = true) (w : World) :
    Calls Tryz.prog 58 #[.agg #[.int .i64 T.A.x, .int .i64 T.A.y, .int .i64 T.B.x, .int .i64 T.B.y, .int .i64 T.C.x, .int .i64 T.C.y], .agg #[.int .i64 a.x, .int .i64 a.y], .agg #[.int .i64 b.x, .int .i64 b.y]] w fun e w' => e = .returned (.agg #[.int .i64 T.C.x, .int .i64 T.C.y]) ∧ Below w.heap.size w w' := by
 have cc0 := zHu T;have cc1 := zJ4 T
 go_enter Tryz.func58, Tryz.ntmps58
 go_wp2_with fail;refine zA2 fun W1 hW => ?_;obtain ⟨Bt, Ba, Bb, Br, hw⟩ := N4 hW;clear hW;refine wp_loop_rounds 4 ?_;try rw [rounds_succ]
 have Ft := Bt.f;have Fa := Ba.f;have Fb := Bb.f;have Fr := Br.f;go_wp2_with fail;have g_tabr := J4 Bt.cells Ba.cells Bb.cells Br.cells;refine wrt 11 (by kernel_rfl) (by kernel_rfl) ?_;simp only [tK1, tK0, dP1, dP0];repeat (first | (refine zA0 (Eq.refl false) ?_; simp only [Act.put, sT2, sT1, sT0]) | (refine rWalk_step (fun K hK => ?_); go_simp; first | (refine hK _ ?_; clear hK K) | (apply Exists.intro; refine ⟨fun _ => ?_, hK _ ?_⟩; (first | with_reducible exact toExt cc0 _); clear hK K)))
 refine rWalk_nil ?_;intro w2 hb;clear g_tabr;clear Ft Fa Fb Fr;obtain ⟨Bt, Ba, Bb, Br, hw, -⟩ := X4 Bt Ba Bb Br hw hb;have Ft := Bt.f;have Fa := Ba.f;have Fb := Bb.f;have Fr := Br.f;go_wp2_with fail;clear Ft Fa Fb Fr;try rw [rounds_succ]
 have Ft := Bt.f;have Fa := Ba.f;have Fb := Bb.f;have Fr := Br.f;go_wp2_with fail;have g_tabr := J4 Bt.cells Ba.cells Bb.cells Br.cells;refine wrt 11 (by kernel_rfl) (by kernel_rfl) ?_;simp only [tK1, tK0, dP1, dP0];repeat (first | (refine zA0 (Eq.refl false) ?_; simp only [Act.put, sT2, sT1, sT0]) | (refine rWalk_step (fun K hK => ?_); go_simp; first | (refine hK _ ?_; clear hK K) | (apply Exists.intro; refine ⟨fun _ => ?_, hK _ ?_⟩; (first | with_reducible exact toExt cc1 _); clear hK K)))
 refine rWalk_nil ?_;intro w3 hb;clear g_tabr;clear Ft Fa Fb Fr;obtain ⟨Bt, Ba, Bb, Br, hw, -⟩ := X4 Bt Ba Bb Br hw hb;have Ft := Bt.f;have Fa := Ba.f;have Fb := Bb.f;have Fr := Br.f;go_wp2_with fail;clear Ft Fa Fb Fr;try rw [rounds_succ]
 have Ft := Bt.f;have Fa := Ba.f;have Fb := Bb.f;have Fr := Br.f;go_wp2_with fail;refine bodyPost_ret (v := .agg #[.int .i64 T.C.x, .int .i64 T.C.y]) (by simp [results, Tryz.results58, go_sem, Fr]) rfl ⟨rfl, by have hl := hw.size; go_grown⟩
theorem far_12 (T : Tri3) (a b : Pt) (ha0 : peqI T.A.x T.A.y a.x a.y = true) (ha1 : peqI T.B.x T.B.y a.x a.y = false) (hb1 : peqI T.B.x T.B.y b.x b.y = true) (w : World) :
    Calls Tryz.prog 58 #[.agg #[.int .i64 T.A.x, .int .i64 T.A.y, .int .i64 T.B.x, .int .i64 T.B.y, .int .i64 T.C.x, .int .i64 T.C.y], .agg #[.int .i64 a.x, .int .i64 a.y], .agg #[.int .i64 b.x, .int .i64 b.y]] w fun e w' => e = .returned (.agg #[.int .i64 T.C.x, .int .i64 T.C.y]) ∧ Below w.heap.size w w' := by
 have cc0 := zHu T;have cc1 := zJ4 T
 go_enter Tryz.func58, Tryz.ntmps58
 go_wp2_with fail;refine zA2 fun W1 hW => ?_;obtain ⟨Bt, Ba, Bb, Br, hw⟩ := N4 hW;clear hW;refine wp_loop_rounds 4 ?_;try rw [rounds_succ]
 have Ft := Bt.f;have Fa := Ba.f;have Fb := Bb.f;have Fr := Br.f;go_wp2_with fail;have g_tabr := J4 Bt.cells Ba.cells Bb.cells Br.cells;refine wrt 11 (by kernel_rfl) (by kernel_rfl) ?_;simp only [tK1, tK0, dP1, dP0];repeat (first | (refine zA0 (Eq.refl false) ?_; simp only [Act.put, sT2, sT1, sT0]) | (refine rWalk_step (fun K hK => ?_); go_simp; first | (refine hK _ ?_; clear hK K) | (apply Exists.intro; refine ⟨fun _ => ?_, hK _ ?_⟩; (first | with_reducible exact toExt cc0 _); clear hK K)))
 refine rWalk_nil ?_;intro w2 hb;clear g_tabr;clear Ft Fa Fb Fr;obtain ⟨Bt, Ba, Bb, Br, hw, -⟩ := X4 Bt Ba Bb Br hw hb;have Ft := Bt.f;have Fa := Ba.f;have Fb := Bb.f;have Fr := Br.f;go_wp2_with fail;clear Ft Fa Fb Fr;try rw [rounds_succ]
 have Ft := Bt.f;have Fa := Ba.f;have Fb := Bb.f;have Fr := Br.f;go_wp2_with fail;have g_tabr := J4 Bt.cells Ba.cells Bb.cells Br.cells;refine wrt 11 (by kernel_rfl) (by kernel_rfl) ?_;simp only [tK1, tK0, dP1, dP0];repeat (first | (refine zA0 (Eq.refl false) ?_; simp only [Act.put, sT2, sT1, sT0]) | (refine rWalk_step (fun K hK => ?_); go_simp; first | (refine hK _ ?_; clear hK K) | (apply Exists.intro; refine ⟨fun _ => ?_, hK _ ?_⟩; (first | with_reducible exact toExt cc1 _); clear hK K)))
 refine rWalk_nil ?_;intro w3 hb;clear g_tabr;clear Ft Fa Fb Fr;obtain ⟨Bt, Ba, Bb, Br, hw, -⟩ := X4 Bt Ba Bb Br hw hb;have Ft := Bt.f;have Fa := Ba.f;have Fb := Bb.f;have Fr := Br.f;go_wp2_with fail;clear Ft Fa Fb Fr;try rw [rounds_succ]
 have Ft := Bt.f;have Fa := Ba.f;have Fb := Bb.f;have Fr := Br.f;go_wp2_with fail;refine bodyPost_ret (v := .agg #[.int .i64 T.C.x, .int .i64 T.C.y]) (by simp [results, Tryz.results58, go_sem, Fr]) rfl ⟨rfl, by have hl := hw.size; go_grown⟩
theorem far_20 (T : Tri3) (a b : Pt) (ha0 : peqI T.A.x T.A.y a.x a.y = false) (hb0 : peqI T.A.x T.A.y b.x b.y = true) (ha1 : peqI T.B.x T.B.y a.x a.y = false) (hb1 : peqI T.B.x T.B.y b.x b.y = false) (w : World) :
    Calls Tryz.prog 58 #[.agg #[.int .i64 T.A.x, .int .i64 T.A.y, .int .i64 T.B.x, .int .i64 T.B.y, .int .i64 T.C.x, .int .i64 T.C.y], .agg #[.int .i64 a.x, .int .i64 a.y], .agg #[.int .i64 b.x, .int .i64 b.y]] w fun e w' => e = .returned (.agg #[.int .i64 T.B.x, .int .i64 T.B.y]) ∧ Below w.heap.size w w' := by
 have cc0 := zHu T;have cc1 := zJ4 T
 go_enter Tryz.func58, Tryz.ntmps58
 go_wp2_with fail;refine zA2 fun W1 hW => ?_;obtain ⟨Bt, Ba, Bb, Br, hw⟩ := N4 hW;clear hW;refine wp_loop_rounds 4 ?_;try rw [rounds_succ]
 have Ft := Bt.f;have Fa := Ba.f;have Fb := Bb.f;have Fr := Br.f;go_wp2_with fail;have g_tabr := J4 Bt.cells Ba.cells Bb.cells Br.cells;refine wrt 11 (by kernel_rfl) (by kernel_rfl) ?_;simp only [tK1, tK0, dP1, dP0];repeat (first | (refine zA0 (Eq.refl false) ?_; simp only [Act.put, sT2, sT1, sT0]) | (refine rWalk_step (fun K hK => ?_); go_simp; first | (refine hK _ ?_; clear hK K) | (apply Exists.intro; refine ⟨fun _ => ?_, hK _ ?_⟩; (first | with_reducible exact toExt cc0 _); clear hK K)))
 refine rWalk_nil ?_;intro w2 hb;clear g_tabr;clear Ft Fa Fb Fr;obtain ⟨Bt, Ba, Bb, Br, hw, -⟩ := X4 Bt Ba Bb Br hw hb;have Ft := Bt.f;have Fa := Ba.f;have Fb := Bb.f;have Fr := Br.f;go_wp2_with fail;clear Ft Fa Fb Fr;try rw [rounds_succ]
 have Ft := Bt.f;have Fa := Ba.f;have Fb := Bb.f;have Fr := Br.f;go_wp2_with fail;have g_tabr := J4 Bt.cells Ba.cells Bb.cells Br.cells;refine wrt 11 (by kernel_rfl) (by kernel_rfl) ?_;simp only [tK1, tK0, dP1, dP0];repeat (first | (refine zA0 (Eq.refl false) ?_; simp only [Act.put, sT2, sT1, sT0]) | (refine rWalk_step (fun K hK => ?_); go_simp; first | (refine hK _ ?_; clear hK K) | (apply Exists.intro; refine ⟨fun _ => ?_, hK _ ?_⟩; (first | with_reducible exact toExt cc1 _); clear hK K)))
 refine rWalk_nil ?_;intro w3 hb;clear g_tabr;clear Ft Fa Fb Fr;obtain ⟨Bt, Ba, Bb, Br, hw, -⟩ := X4 Bt Ba Bb Br hw hb;have Ft := Bt.f;have Fa := Ba.f;have Fb := Bb.f;have Fr := Br.f;go_wp2_with fail;refine (cc1 _).mono ?_;rintro e w4 ⟨rfl, hb⟩;clear Ft Fa Fb Fr;obtain ⟨Bt, Ba, Bb, Br, hw, -⟩ := X4 Bt Ba Bb Br hw hb;clear hb;have Ft := Bt.f;have Fa := Ba.f;have Fb := Bb.f;have Fr := Br.f;go_wp2_with fail;refine bodyPost_ret (v := .agg #[.int .i64 T.B.x, .int .i64 T.B.y]) (by simp [results, Tryz.results58, go_sem, Fr]) rfl ⟨rfl, by have hl := hw.size; go_grown⟩
theorem far_21 (T : Tri3) (a b : Pt) (ha0 : peqI T.A.x T.A.y a.x a.y = false) (hb0 : peqI T.A.x T.A.y b.x b.y = true) (ha1 : peqI T.B.x T.B.y a.x a.y = true) (w : World) :
    Calls Tryz.prog 58 #[.agg #[.int .i64 T.A.x, .int .i64 T.A.y, .int .i64 T.B.x, .int .i64 T.B.y, .int .i64 T.C.x, .int .i64 T.C.y], .agg #[.int .i64 a.x, .int .i64 a.y], .agg #[.int .i64 b.x, .int .i64 b.y]] w fun e w' => e = .returned (.agg #[.int .i64 T.C.x, .int .i64 T.C.y]) ∧ Below w.heap.size w w' := by
 have cc0 := zHu T;have cc1 := zJ4 T
 go_enter Tryz.func58, Tryz.ntmps58
 go_wp2_with fail;refine zA2 fun W1 hW => ?_;obtain ⟨Bt, Ba, Bb, Br, hw⟩ := N4 hW;clear hW;refine wp_loop_rounds 4 ?_;try rw [rounds_succ]
 have Ft := Bt.f;have Fa := Ba.f;have Fb := Bb.f;have Fr := Br.f;go_wp2_with fail;have g_tabr := J4 Bt.cells Ba.cells Bb.cells Br.cells;refine wrt 11 (by kernel_rfl) (by kernel_rfl) ?_;simp only [tK1, tK0, dP1, dP0];repeat (first | (refine zA0 (Eq.refl false) ?_; simp only [Act.put, sT2, sT1, sT0]) | (refine rWalk_step (fun K hK => ?_); go_simp; first | (refine hK _ ?_; clear hK K) | (apply Exists.intro; refine ⟨fun _ => ?_, hK _ ?_⟩; (first | with_reducible exact toExt cc0 _); clear hK K)))
 refine rWalk_nil ?_;intro w2 hb;clear g_tabr;clear Ft Fa Fb Fr;obtain ⟨Bt, Ba, Bb, Br, hw, -⟩ := X4 Bt Ba Bb Br hw hb;have Ft := Bt.f;have Fa := Ba.f;have Fb := Bb.f;have Fr := Br.f;go_wp2_with fail;clear Ft Fa Fb Fr;try rw [rounds_succ]
 have Ft := Bt.f;have Fa := Ba.f;have Fb := Bb.f;have Fr := Br.f;go_wp2_with fail;have g_tabr := J4 Bt.cells Ba.cells Bb.cells Br.cells;refine wrt 11 (by kernel_rfl) (by kernel_rfl) ?_;simp only [tK1, tK0, dP1, dP0];repeat (first | (refine zA0 (Eq.refl false) ?_; simp only [Act.put, sT2, sT1, sT0]) | (refine rWalk_step (fun K hK => ?_); go_simp; first | (refine hK _ ?_; clear hK K) | (apply Exists.intro; refine ⟨fun _ => ?_, hK _ ?_⟩; (first | with_reducible exact toExt cc1 _); clear hK K)))
 refine rWalk_nil ?_;intro w3 hb;clear g_tabr;clear Ft Fa Fb Fr;obtain ⟨Bt, Ba, Bb, Br, hw, -⟩ := X4 Bt Ba Bb Br hw hb;have Ft := Bt.f;have Fa := Ba.f;have Fb := Bb.f;have Fr := Br.f;go_wp2_with fail;clear Ft Fa Fb Fr;try rw [rounds_succ]
 have Ft := Bt.f;have Fa := Ba.f;have Fb := Bb.f;have Fr := Br.f;go_wp2_with fail;refine bodyPost_ret (v := .agg #[.int .i64 T.C.x, .int .i64 T.C.y]) (by simp [results, Tryz.results58, go_sem, Fr]) rfl ⟨rfl, by have hl := hw.size; go_grown⟩
theorem far_22 (T : Tri3) (a b : Pt) (ha0 : peqI T.A.x T.A.y a.x a.y = false) (hb0 : peqI T.A.x T.A.y b.x b.y = true) (ha1 : peqI T.B.x T.B.y a.x a.y = false) (hb1 : peqI T.B.x T.B.y b.x b.y = true) (w : World) :
    Calls Tryz.prog 58 #[.agg #[.int .i64 T.A.x, .int .i64 T.A.y, .int .i64 T.B.x, .int .i64 T.B.y, .int .i64 T.C.x, .int .i64 T.C.y], .agg #[.int .i64 a.x, .int .i64 a.y], .agg #[.int .i64 b.x, .int .i64 b.y]] w fun e w' => e = .returned (.agg #[.int .i64 T.C.x, .int .i64 T.C.y]) ∧ Below w.heap.size w w' := by
 have cc0 := zHu T;have cc1 := zJ4 T
 go_enter Tryz.func58, Tryz.ntmps58
 go_wp2_with fail;refine zA2 fun W1 hW => ?_;obtain ⟨Bt, Ba, Bb, Br, hw⟩ := N4 hW;clear hW;refine wp_loop_rounds 4 ?_;try rw [rounds_succ]
 have Ft := Bt.f;have Fa := Ba.f;have Fb := Bb.f;have Fr := Br.f;go_wp2_with fail;have g_tabr := J4 Bt.cells Ba.cells Bb.cells Br.cells;refine wrt 11 (by kernel_rfl) (by kernel_rfl) ?_;simp only [tK1, tK0, dP1, dP0];repeat (first | (refine zA0 (Eq.refl false) ?_; simp only [Act.put, sT2, sT1, sT0]) | (refine rWalk_step (fun K hK => ?_); go_simp; first | (refine hK _ ?_; clear hK K) | (apply Exists.intro; refine ⟨fun _ => ?_, hK _ ?_⟩; (first | with_reducible exact toExt cc0 _); clear hK K)))
 refine rWalk_nil ?_;intro w2 hb;clear g_tabr;clear Ft Fa Fb Fr;obtain ⟨Bt, Ba, Bb, Br, hw, -⟩ := X4 Bt Ba Bb Br hw hb;have Ft := Bt.f;have Fa := Ba.f;have Fb := Bb.f;have Fr := Br.f;go_wp2_with fail;clear Ft Fa Fb Fr;try rw [rounds_succ]
 have Ft := Bt.f;have Fa := Ba.f;have Fb := Bb.f;have Fr := Br.f;go_wp2_with fail;have g_tabr := J4 Bt.cells Ba.cells Bb.cells Br.cells;refine wrt 11 (by kernel_rfl) (by kernel_rfl) ?_;simp only [tK1, tK0, dP1, dP0];repeat (first | (refine zA0 (Eq.refl false) ?_; simp only [Act.put, sT2, sT1, sT0]) | (refine rWalk_step (fun K hK => ?_); go_simp; first | (refine hK _ ?_; clear hK K) | (apply Exists.intro; refine ⟨fun _ => ?_, hK _ ?_⟩; (first | with_reducible exact toExt cc1 _); clear hK K)))
 refine rWalk_nil ?_;intro w3 hb;clear g_tabr;clear Ft Fa Fb Fr;obtain ⟨Bt, Ba, Bb, Br, hw, -⟩ := X4 Bt Ba Bb Br hw hb;have Ft := Bt.f;have Fa := Ba.f;have Fb := Bb.f;have Fr := Br.f;go_wp2_with fail;clear Ft Fa Fb Fr;try rw [rounds_succ]
 have Ft := Bt.f;have Fa := Ba.f;have Fb := Bb.f;have Fr := Br.f;go_wp2_with fail;refine bodyPost_ret (v := .agg #[.int .i64 T.C.x, .int .i64 T.C.y]) (by simp [results, Tryz.results58, go_sem, Fr]) rfl ⟨rfl, by have hl := hw.size; go_grown⟩
theorem zC3 (T : Tri3) (a b : Pt) (w : World) : Calls Tryz.prog 58 #[.agg #[.int .i64 T.A.x, .int .i64 T.A.y, .int .i64 T.B.x, .int .i64 T.B.y, .int .i64 T.C.x, .int .i64 T.C.y], .agg #[.int .i64 a.x, .int .i64 a.y], .agg #[.int .i64 b.x, .int .i64 b.y]] w fun e w' => e = .returned (.agg #[.int .i64 (apx T a b).x, .int .i64 (apx T a b).y]) ∧ Below w.heap.size w w' := by
 unfold apx;cases a0 : peqI T.A.x T.A.y a.x a.y with
 | false =>
  cases b0 : peqI T.A.x T.A.y b.x b.y with
  | false => simpa using far_0 T a b a0 b0 w
  | true =>
   cases a1 : peqI T.B.x T.B.y a.x a.y with
   | false =>
    cases b1 : peqI T.B.x T.B.y b.x b.y with
    | false => simpa using far_20 T a b a0 b0 a1 b1 w
    | true => simpa using far_22 T a b a0 b0 a1 b1 w
   | true => simpa using far_21 T a b a0 b0 a1 w
 | true =>
  cases a1 : peqI T.B.x T.B.y a.x a.y with
  | false =>
   cases b1 : peqI T.B.x T.B.y b.x b.y with
   | false => simpa using far_10 T a b a0 a1 b1 w
   | true => simpa using far_12 T a b a0 a1 b1 w
  | true => simpa using far_11 T a b a0 a1 w
attribute [local go_sem] rmap_nil
theorem zCs (T : Tri3) (w : World) :
    Calls Tryz.prog 109 #[.agg #[.int .i64 T.A.x, .int .i64 T.A.y, .int .i64 T.B.x, .int .i64 T.B.y, .int .i64 T.C.x, .int .i64 T.C.y]] w fun e w' => e = .returned (.agg #[.int .i64 T.A.x, .int .i64 T.A.y, .int .i64 T.B.x, .int .i64 T.B.y, .int .i64 T.B.x, .int .i64 T.B.y, .int .i64 T.C.x, .int .i64 T.C.y, .int .i64 T.C.x, .int .i64 T.C.y, .int .i64 T.A.x, .int .i64 T.A.y]) ∧ Below w.heap.size w w' := by
 go_enter Tryz.func109, Tryz.ntmps109
 go_wp2_with fail;refine bodyPost_ret (v := .agg #[.int .i64 T.A.x, .int .i64 T.A.y, .int .i64 T.B.x, .int .i64 T.B.y, .int .i64 T.B.x, .int .i64 T.B.y, .int .i64 T.C.x, .int .i64 T.C.y, .int .i64 T.C.x, .int .i64 T.C.y, .int .i64 T.A.x, .int .i64 T.A.y]) (by simp [results, Tryz.results109, go_sem]) rfl ⟨rfl, by go_grown⟩
theorem rleft_1 (mb b : Nat) (E : Es) (p q : Pt) (T : Tri3) (hg : getE E (p, q) = some T) (hk : okW (p, q)) (w : World) (Bm : Box w mb [.map (some b)] 54) (Hm : HoldsMap eW eT okW w b E) :
    Calls Tryz.prog 57 #[.pointer (some ⟨mb, 0, none⟩), .agg #[.int .i64 p.x, .int .i64 p.y], .agg #[.int .i64 q.x, .int .i64 q.y]] w fun e w' => e = .returned (.tuple #[.agg #[.int .i64 T.A.x, .int .i64 T.A.y, .int .i64 T.B.x, .int .i64 T.B.y, .int .i64 T.C.x, .int .i64 T.C.y], .bool true]) ∧ Below w.heap.size w w' := by
 go_enter Tryz.func57, Tryz.ntmps57
 go_wp2_with fail;refine zA2 fun W1 hW => ?_;obtain ⟨Bp, Bq, Br, hw⟩ := N3 hW;clear hW;have BM : Box W1 (mb) [.map (some b)] 54 := Bm.ee hw;have hl : ∀ d os, (Instr.lookup 52 (.map (some b)) (.agg #[.int .i64 p.x, .int .i64 p.y, .int .i64 q.x, .int .i64 q.y]) true).run Tryz.prog (grow (redrawn W1 d) os) = .ok (.tuple #[.agg #[.int .i64 T.A.x, .int .i64 T.A.y, .int .i64 T.B.x, .int .i64 T.B.y, .int .i64 T.C.x, .int .i64 T.C.y], .bool true]) (grow (redrawn W1 d) os) := fun d os => ((Hm.ee hw).ext (below_regrown W1 d os) rfl).look_some kvR zAp hk hg;clear hg;have g_pqrM := J4 Bp.cells Bq.cells Br.cells BM.cells;refine zA3 11 8 19 [.int .i64 T.A.x, .int .i64 T.A.y, .int .i64 T.B.x, .int .i64 T.B.y, .int .i64 T.C.x, .int .i64 T.C.y] (zs := [.int .i64 0, .int .i64 0, .int .i64 0, .int .i64 0, .int .i64 0, .int .i64 0]) (eff := eff6 (.int .i64 T.A.x) (.int .i64 T.A.y) (.int .i64 T.B.x) (.int .i64 T.B.y) (.int .i64 T.C.x) (.int .i64 T.C.y)) zAc rfl rfl rfl rfl rfl rfl rfl (by simp) (fun ρ W => by simp [execOp, go_sem]; rfl) (by kernel_rfl) (by as_aux_lemma => kernel_rfl) (C := fun w' => ∃ p : Regrown, w' = grow (redrawn W1 p.d) p.os) rgB ?_ (fun ρ W b e1 e2 hB => by obtain ⟨x, y, _, _⟩ := hB.f; simp [execOp, go_sem, e1, e2, x, y, eff6]);simp only [tK1, tK0, dP1, dP0];repeat (first | (refine zA0 (Eq.refl false) ?_; simp only [Act.put, sT2, sT1, sT0]) | (refine rWalk_step (fun K hK => ?_); go_simp; refine hK _ ?_; clear hK K))
 refine rWalk_nil ⟨rfl, ?_⟩;intro w2 bks hb h1b h2b Bs;have lps := Bp.lt;have lqs := Bq.lt;have lrs := Br.lt;have lMs := BM.lt;have hw0z := hw.size;clear g_pqrM;obtain ⟨Bp, Bq, Br, BM, hw, -⟩ := X4 Bp Bq Br BM hw hb;have fs := h1b;have hwz : w.heap.size ≤ W1.heap.size := hw0z;clear hb h1b h2b hw0z;simp only [Act.put];clear hl;obtain ⟨xp, yp, zp, vp⟩ := Bp.f;obtain ⟨xq, yq, zq, vq⟩ := Bq.f;obtain ⟨xr, yr, zr, vr⟩ := Br.f;obtain ⟨xM, yM, zM, vM⟩ := BM.f;obtain ⟨xs, ys, zs, vs⟩ := Bs.f;go_wp2_with fail;refine bodyPost_ret (v := .tuple #[.agg #[.int .i64 T.A.x, .int .i64 T.A.y, .int .i64 T.B.x, .int .i64 T.B.y, .int .i64 T.C.x, .int .i64 T.C.y], .bool true]) (by simp [results, Tryz.results57, go_sem, xr]) rfl ⟨rfl, by have hl := hw.size; go_grown⟩
theorem rleft_0 (mb b : Nat) (E : Es) (p q : Pt) (hg : getE E (p, q) = none) (hk : okW (p, q)) (w : World) (Bm : Box w mb [.map (some b)] 54) (Hm : HoldsMap eW eT okW w b E) :
    Calls Tryz.prog 57 #[.pointer (some ⟨mb, 0, none⟩), .agg #[.int .i64 p.x, .int .i64 p.y], .agg #[.int .i64 q.x, .int .i64 q.y]] w fun e w' => e = .returned (.tuple #[.agg #[.int .i64 0, .int .i64 0, .int .i64 0, .int .i64 0, .int .i64 0, .int .i64 0], .bool false]) ∧ Below w.heap.size w w' := by
 go_enter Tryz.func57, Tryz.ntmps57
 go_wp2_with fail;refine zA2 fun W1 hW => ?_;obtain ⟨Bp, Bq, Br, hw⟩ := N3 hW;clear hW;have BM : Box W1 (mb) [.map (some b)] 54 := Bm.ee hw;have hl : ∀ d os, (Instr.lookup 52 (.map (some b)) (.agg #[.int .i64 p.x, .int .i64 p.y, .int .i64 q.x, .int .i64 q.y]) true).run Tryz.prog (grow (redrawn W1 d) os) = .ok (.tuple #[.agg #[.int .i64 0, .int .i64 0, .int .i64 0, .int .i64 0, .int .i64 0, .int .i64 0], .bool false]) (grow (redrawn W1 d) os) := fun d os => ((Hm.ee hw).ext (below_regrown W1 d os) rfl).look_none kvR zAp hk hg;clear hg;have g_pqrM := J4 Bp.cells Bq.cells Br.cells BM.cells;refine zA3 11 8 19 [.int .i64 0, .int .i64 0, .int .i64 0, .int .i64 0, .int .i64 0, .int .i64 0] (zs := [.int .i64 0, .int .i64 0, .int .i64 0, .int .i64 0, .int .i64 0, .int .i64 0]) (eff := eff6 (.int .i64 0) (.int .i64 0) (.int .i64 0) (.int .i64 0) (.int .i64 0) (.int .i64 0)) zAc rfl rfl rfl rfl rfl rfl rfl (by simp) (fun ρ W => by simp [execOp, go_sem]; rfl) (by kernel_rfl) (by as_aux_lemma => kernel_rfl) (C := fun w' => ∃ p : Regrown, w' = grow (redrawn W1 p.d) p.os) rgB ?_ (fun ρ W b e1 e2 hB => by obtain ⟨x, y, _, _⟩ := hB.f; simp [execOp, go_sem, e1, e2, x, y, eff6]);simp only [tK1, tK0, dP1, dP0];repeat (first | (refine zA0 (Eq.refl false) ?_; simp only [Act.put, sT2, sT1, sT0]) | (refine rWalk_step (fun K hK => ?_); go_simp; refine hK _ ?_; clear hK K))
 refine rWalk_nil ⟨rfl, ?_⟩;intro w2 bks hb h1b h2b Bs;have lps := Bp.lt;have lqs := Bq.lt;have lrs := Br.lt;have lMs := BM.lt;have hw0z := hw.size;clear g_pqrM;obtain ⟨Bp, Bq, Br, BM, hw, -⟩ := X4 Bp Bq Br BM hw hb;have fs := h1b;have hwz : w.heap.size ≤ W1.heap.size := hw0z;clear hb h1b h2b hw0z;simp only [Act.put];clear hl;obtain ⟨xp, yp, zp, vp⟩ := Bp.f;obtain ⟨xq, yq, zq, vq⟩ := Bq.f;obtain ⟨xr, yr, zr, vr⟩ := Br.f;obtain ⟨xM, yM, zM, vM⟩ := BM.f;obtain ⟨xs, ys, zs, vs⟩ := Bs.f;go_wp2_with fail;refine bodyPost_ret (v := .tuple #[.agg #[.int .i64 0, .int .i64 0, .int .i64 0, .int .i64 0, .int .i64 0, .int .i64 0], .bool false]) (by simp [results, Tryz.results57, go_sem, xr]) rfl ⟨rfl, by have hl := hw.size; go_grown⟩
theorem zAe (mb b : Nat) (E : Es) (p q : Pt) (hk : okW (p, q)) (w : World) (Bm : Box w mb [.map (some b)] 54) (Hm : HoldsMap eW eT okW w b E) :
    Calls Tryz.prog 57 #[.pointer (some ⟨mb, 0, none⟩), .agg #[.int .i64 p.x, .int .i64 p.y], .agg #[.int .i64 q.x, .int .i64 q.y]] w fun e w' => e = .returned (.tuple #[eT (lftE E p q).1, .bool (lftE E p q).2]) ∧ Below w.heap.size w w' := by
 cases h : getE E (p, q) with
 | none => rw [zBr h]; exact rleft_0 mb b E p q h hk w Bm Hm
 | some t => rw [zAn h]; exact rleft_1 mb b E p q t h hk w Bm Hm
theorem rmhas_1 (mb b : Nat) (E : Es) (T : Tri3) (S : Tri3) (hg : getE E (T.A, T.B) = some S) (hk : okT T) (w : World) (Bm : Box w mb [.map (some b)] 54) (Hm : HoldsMap eW eT okW w b E) :
    Calls Tryz.prog 64 #[.pointer (some ⟨mb, 0, none⟩), .agg #[.int .i64 T.A.x, .int .i64 T.A.y, .int .i64 T.B.x, .int .i64 T.B.y, .int .i64 T.C.x, .int .i64 T.C.y]] w fun e w' => e = .returned (.bool (teq S T)) ∧ Below w.heap.size w w' := by
 go_enter Tryz.func64, Tryz.ntmps64
 go_wp2_with fail;refine zA2 fun W1 hW => ?_;obtain ⟨Bt, hw⟩ := N1 hW;clear hW;have BM : Box W1 (mb) [.map (some b)] 54 := Bm.ee hw;have hl : ∀ d os, (Instr.lookup 52 (.map (some b)) (.agg #[.int .i64 T.A.x, .int .i64 T.A.y, .int .i64 T.B.x, .int .i64 T.B.y]) true).run Tryz.prog (grow (redrawn W1 d) os) = .ok (.tuple #[.agg #[.int .i64 S.A.x, .int .i64 S.A.y, .int .i64 S.B.x, .int .i64 S.B.y, .int .i64 S.C.x, .int .i64 S.C.y], .bool true]) (grow (redrawn W1 d) os) := fun d os => ((Hm.ee hw).ext (below_regrown W1 d os) rfl).look_some kvR zAp (okT_w hk).1 hg;clear hg;have g_tM := J2 Bt.cells BM.cells;refine zA3 13 5 18 [.int .i64 S.A.x, .int .i64 S.A.y, .int .i64 S.B.x, .int .i64 S.B.y, .int .i64 S.C.x, .int .i64 S.C.y] (zs := [.int .i64 0, .int .i64 0, .int .i64 0, .int .i64 0, .int .i64 0, .int .i64 0]) (eff := eff6 (.int .i64 S.A.x) (.int .i64 S.A.y) (.int .i64 S.B.x) (.int .i64 S.B.y) (.int .i64 S.C.x) (.int .i64 S.C.y)) zAc rfl rfl rfl rfl rfl rfl rfl (by simp) (fun ρ W => by simp [execOp, go_sem]; rfl) (by kernel_rfl) (by as_aux_lemma => kernel_rfl) (C := fun w' => ∃ p : Regrown, w' = grow (redrawn W1 p.d) p.os) rgB ?_ (fun ρ W b e1 e2 hB => by obtain ⟨x, y, _, _⟩ := hB.f; simp [execOp, go_sem, e1, e2, x, y, eff6]);simp only [tK1, tK0, dP1, dP0];repeat (first | (refine zA0 (Eq.refl false) ?_; simp only [Act.put, sT2, sT1, sT0]) | (refine rWalk_step (fun K hK => ?_); go_simp; refine hK _ ?_; clear hK K))
 refine rWalk_nil ⟨rfl, ?_⟩;intro w2 bks hb h1b h2b Bs;have lts := Bt.lt;have lMs := BM.lt;have hw0z := hw.size;clear g_tM;obtain ⟨Bt, BM, hw, -⟩ := X2 Bt BM hw hb;have fs := h1b;have hwz : w.heap.size ≤ W1.heap.size := hw0z;clear hb h1b h2b hw0z;simp only [Act.put];clear hl hk;obtain ⟨xt, yt, zt, vt⟩ := Bt.f;obtain ⟨xM, yM, zM, vM⟩ := BM.f;obtain ⟨xs, ys, zs, vs⟩ := Bs.f;go_wp2
 go_ret
 exact ⟨rfl, by have hl := hw.size; go_grown⟩
theorem rmhas_0 (mb b : Nat) (E : Es) (T : Tri3) (hg : getE E (T.A, T.B) = none) (hk : okT T) (w : World) (Bm : Box w mb [.map (some b)] 54) (Hm : HoldsMap eW eT okW w b E) :
    Calls Tryz.prog 64 #[.pointer (some ⟨mb, 0, none⟩), .agg #[.int .i64 T.A.x, .int .i64 T.A.y, .int .i64 T.B.x, .int .i64 T.B.y, .int .i64 T.C.x, .int .i64 T.C.y]] w fun e w' => e = .returned (.bool false) ∧ Below w.heap.size w w' := by
 go_enter Tryz.func64, Tryz.ntmps64
 go_wp2_with fail;refine zA2 fun W1 hW => ?_;obtain ⟨Bt, hw⟩ := N1 hW;clear hW;have BM : Box W1 (mb) [.map (some b)] 54 := Bm.ee hw;have hl : ∀ d os, (Instr.lookup 52 (.map (some b)) (.agg #[.int .i64 T.A.x, .int .i64 T.A.y, .int .i64 T.B.x, .int .i64 T.B.y]) true).run Tryz.prog (grow (redrawn W1 d) os) = .ok (.tuple #[.agg #[.int .i64 0, .int .i64 0, .int .i64 0, .int .i64 0, .int .i64 0, .int .i64 0], .bool false]) (grow (redrawn W1 d) os) := fun d os => ((Hm.ee hw).ext (below_regrown W1 d os) rfl).look_none kvR zAp (okT_w hk).1 hg;clear hg;have g_tM := J2 Bt.cells BM.cells;refine zA3 13 5 18 [.int .i64 0, .int .i64 0, .int .i64 0, .int .i64 0, .int .i64 0, .int .i64 0] (zs := [.int .i64 0, .int .i64 0, .int .i64 0, .int .i64 0, .int .i64 0, .int .i64 0]) (eff := eff6 (.int .i64 0) (.int .i64 0) (.int .i64 0) (.int .i64 0) (.int .i64 0) (.int .i64 0)) zAc rfl rfl rfl rfl rfl rfl rfl (by simp) (fun ρ W => by simp [execOp, go_sem]; rfl) (by kernel_rfl) (by as_aux_lemma => kernel_rfl) (C := fun w' => ∃ p : Regrown, w' = grow (redrawn W1 p.d) p.os) rgB ?_ (fun ρ W b e1 e2 hB => by obtain ⟨x, y, _, _⟩ := hB.f; simp [execOp, go_sem, e1, e2, x, y, eff6]);simp only [tK1, tK0, dP1, dP0];repeat (first | (refine zA0 (Eq.refl false) ?_; simp only [Act.put, sT2, sT1, sT0]) | (refine rWalk_step (fun K hK => ?_); go_simp; refine hK _ ?_; clear hK K))
 refine rWalk_nil ⟨rfl, ?_⟩;intro w2 bks hb h1b h2b Bs;have lts := Bt.lt;have lMs := BM.lt;have hw0z := hw.size;clear g_tM;obtain ⟨Bt, BM, hw, -⟩ := X2 Bt BM hw hb;have fs := h1b;have hwz : w.heap.size ≤ W1.heap.size := hw0z;clear hb h1b h2b hw0z;simp only [Act.put];clear hl hk;obtain ⟨xt, yt, zt, vt⟩ := Bt.f;obtain ⟨xM, yM, zM, vM⟩ := BM.f;obtain ⟨xs, ys, zs, vs⟩ := Bs.f;go_wp2
 go_ret
 exact ⟨rfl, by have hl := hw.size; go_grown⟩
theorem zGk (mb b : Nat) (E : Es) (T : Tri3) (hk : okT T) (w : World) (Bm : Box w mb [.map (some b)] 54) (Hm : HoldsMap eW eT okW w b E) :
    Calls Tryz.prog 64 #[.pointer (some ⟨mb, 0, none⟩), .agg #[.int .i64 T.A.x, .int .i64 T.A.y, .int .i64 T.B.x, .int .i64 T.B.y, .int .i64 T.C.x, .int .i64 T.C.y]] w fun e w' => e = .returned (.bool (hasE E T)) ∧ Below w.heap.size w w' := by
 cases h : getE E (T.A, T.B) with
 | none => rw [show hasE E T = false by unfold hasE; rw [h]]; exact rmhas_0 mb b E T h hk w Bm Hm
 | some S => rw [show hasE E T = teq S T by unfold hasE; rw [h]]; exact rmhas_1 mb b E T S h hk w Bm Hm
theorem toExtD {P : Program} {f : FuncId} {args : Array Value} {v : Value} {W : World} (c : ∀ d os, Calls P f args (grow (redrawn W d) os) fun e w' => e = .returned v ∧ Below (grow (redrawn W d) os).heap.size (grow (redrawn W d) os) w') :
    ∀ d os, Calls P f args (grow (redrawn W d) os) fun e w' => e = .returned v ∧ Ext (grow (redrawn W d) os) w' := c
theorem racross_1 (mb b : Nat) (E : Es) (T : Tri3) (i : Int) (hk : okT T) (hi0 : 0 ≤ i) (hi1 : i ≤ 100) (hh : hasE E T = true) (w : World) (Bm : Box w mb [.map (some b)] 54) (Hm : HoldsMap eW eT okW w b E) :
    Calls Tryz.prog 66 #[.pointer (some ⟨mb, 0, none⟩), .agg #[.int .i64 T.A.x, .int .i64 T.A.y, .int .i64 T.B.x, .int .i64 T.B.y, .int .i64 T.C.x, .int .i64 T.C.y], .int .i64 i] w fun e w' => e = .returned (.tuple #[eT (lftE E (crn T (i + 1)) (crn T i)).1, .bool (lftE E (crn T (i + 1)) (crn T i)).2]) ∧ Below w.heap.size w w' := by
 have ch := zGk mb b E T hk;rw [hh] at ch;clear hh;have cl0 := zAe mb b E (crn T (i + 1)) (crn T i) ⟨zEl hk _, zEl hk _⟩;have c1 := zAm T i;have c2 := zAm T (i + 1);have hi : IntKind.i64.wrap (i + 1) = i + 1 := by rw [IntKind.wrap_i64]; omega
 generalize lftE E (crn T (i + 1)) (crn T i) = sv at *
 obtain ⟨S, v⟩ := sv;dsimp only at *;generalize crn T i = P at *
 generalize crn T (i + 1) = Q at *
 clear hi0 hi1
 go_enter Tryz.func66, Tryz.ntmps66
 go_wp2_with fail;refine zA1 fun W1 hW => ?_;obtain ⟨Bt, Br, hw⟩ := N2 hW;clear hW;refine (ch _ (Bm.ee hw) (Hm.ee hw)).mono ?_;rintro e w2 ⟨rfl, hb⟩;obtain ⟨Bt, Br, hw, -⟩ := X2 Bt Br hw hb;clear hb;have Ft := Bt.f;have Fr := Br.f;go_wp2_with fail;refine zA2 fun W3 hW => ?_;subst hW;clear Ft Fr;have cl : ∀ d os, Calls Tryz.prog 57 #[.pointer (some ⟨mb, 0, none⟩), .agg #[.int .i64 Q.x, .int .i64 Q.y], .agg #[.int .i64 P.x, .int .i64 P.y]] (grow (redrawn W3 d) os) fun e w' => e = .returned (.tuple #[.agg #[.int .i64 S.A.x, .int .i64 S.A.y, .int .i64 S.B.x, .int .i64 S.B.y, .int .i64 S.C.x, .int .i64 S.C.y], .bool v]) ∧ Below (grow (redrawn W3 d) os).heap.size (grow (redrawn W3 d) os) w' := fun d os => cl0 _ ((Bm.ee hw).ext (below_regrown W3 d os) rfl) ((Hm.ee hw).ext (below_regrown W3 d os) rfl);have g_tr := J2 Bt.cells Br.cells;refine wrt 11 (by kernel_rfl) (by kernel_rfl) ?_;simp only [tK1, tK0, dP1, dP0];repeat (first | (refine zA0 (Eq.refl false) ?_; simp only [Act.put, sT2, sT1, sT0]) | (refine rWalk_step (fun K hK => ?_); go_simp; first | (refine hK _ ?_; clear hK K) | (apply Exists.intro; refine ⟨fun _ => ?_, hK _ ?_⟩; (first | with_reducible exact toExt c2 _ | with_reducible exact toExt c1 _ | with_reducible exact toExtD cl _ _); clear hK K)))
 refine rWalk_nil ?_;intro w4 hb;clear g_tr;obtain ⟨Bt, Br, hw, -⟩ := X2 Bt Br hw hb;have Ft := Bt.f;have Fr := Br.f;go_wp2_with fail;refine bodyPost_ret (v := .tuple #[.agg #[.int .i64 S.A.x, .int .i64 S.A.y, .int .i64 S.B.x, .int .i64 S.B.y, .int .i64 S.C.x, .int .i64 S.C.y], .bool v]) (by simp [results, Tryz.results66, go_sem, Fr]) rfl ⟨rfl, by have hl := hw.size; go_grown⟩
theorem racross_0 (mb b : Nat) (E : Es) (T : Tri3) (i : Int) (hk : okT T) (hh : hasE E T = false) (w : World) (Bm : Box w mb [.map (some b)] 54) (Hm : HoldsMap eW eT okW w b E) :
    Calls Tryz.prog 66 #[.pointer (some ⟨mb, 0, none⟩), .agg #[.int .i64 T.A.x, .int .i64 T.A.y, .int .i64 T.B.x, .int .i64 T.B.y, .int .i64 T.C.x, .int .i64 T.C.y], .int .i64 i] w fun e w' => e = .returned (.tuple #[.agg #[.int .i64 0, .int .i64 0, .int .i64 0, .int .i64 0, .int .i64 0, .int .i64 0], .bool false]) ∧ Below w.heap.size w w' := by
 have ch := zGk mb b E T hk;rw [hh] at ch;clear hh
 go_enter Tryz.func66, Tryz.ntmps66
 go_wp2_with fail;refine zA1 fun W1 hW => ?_;obtain ⟨Bt, Br, hw⟩ := N2 hW;clear hW;refine (ch _ (Bm.ee hw) (Hm.ee hw)).mono ?_;rintro e w2 ⟨rfl, hb⟩;obtain ⟨Bt, Br, hw, -⟩ := X2 Bt Br hw hb;clear hb;have Ft := Bt.f;have Fr := Br.f;go_wp2_with fail;refine bodyPost_ret (v := .tuple #[.agg #[.int .i64 0, .int .i64 0, .int .i64 0, .int .i64 0, .int .i64 0, .int .i64 0], .bool false]) (by simp [results, Tryz.results66, go_sem, Fr]) rfl ⟨rfl, by have hl := hw.size; go_grown⟩
theorem racross_any (mb b : Nat) (E : Es) (T : Tri3) (i : Int) (hk : okT T) (hi0 : 0 ≤ i) (hi1 : i ≤ 100) (w : World) (Bm : Box w mb [.map (some b)] 54) (Hm : HoldsMap eW eT okW w b E) :
    Calls Tryz.prog 66 #[.pointer (some ⟨mb, 0, none⟩), .agg #[.int .i64 T.A.x, .int .i64 T.A.y, .int .i64 T.B.x, .int .i64 T.B.y, .int .i64 T.C.x, .int .i64 T.C.y], .int .i64 i] w fun e w' => e = .returned (.tuple #[eT (acrE E T i).1, .bool (acrE E T i).2]) ∧ Below w.heap.size w w' := by
 unfold acrE;cases hh : hasE E T with
 | true => rw [if_pos rfl]; exact racross_1 mb b E T i hk hi0 hi1 hh w Bm Hm
 | false => rw [if_neg (by decide)]; exact racross_0 mb b E T i hk hh w Bm Hm
end Go.Proofs.YtjkfakaehjmnbaaGreat
