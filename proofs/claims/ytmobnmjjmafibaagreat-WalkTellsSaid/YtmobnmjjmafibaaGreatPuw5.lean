/- Put together: MesF, MesU, TrC, CdtB, MesG, RegD, CmpD, TrE, TrM, Ord, RowK, Wal, WalB, Shelf, WalC, WalD, Rise, WalM, WalF, WalG, DocA. -/
import Derived.Test.YtmobnmjjmafibaaGreatRows
import Derived.Test.YtmobnmjjmafibaaGreatPuw4
import Derived.Test.YtmobnmjjmafibaaGreatPuw0
import Derived.WalkKit
import Derived.WalkSpells
import Derived.WalkLawsBesides
import Derived.Laws.Externs
import Derived.Deep.QuietTactic
import Derived.BigQuiet
import Derived.Lib.Hide
import Derived.Handy
import Derived.Maps.OwnSet
import Derived.Maps.OwnOps
import Derived.LoopN
import Derived.RegionTactic
import Derived.Deep.Draws
import Derived.Sort.Grow
import Derived.Shelf.SlSortCmp.NoneTotal
import Derived.Laws.AppendOwn
import Derived.BigCall
import Derived.Test.YtmobnmjjmafibaaGreatPuw1
import Derived.Test.YtmobnmjjmafibaaGreatPuw2
import Derived.Shelf.SlicesQ.IndexFunc
import Derived.Shelf.SlicesE.Clone
import Derived.Ground.SlsfProg
import Derived.Ground.SlgfProg
import Derived.Ground.SlgnProg
import Derived.Test.YtmobnmjjmafibaaGreatProg
import Derived.OwnWalk
set_option maxRecDepth 100000
set_option maxHeartbeats 8000000
namespace Go.Proofs.YtmobnmjjmafibaaGreat
open Go.RowKit Go.Sort
attribute [local go_sem] rOper rAt rUpon cell_set sg_i64 sg_u64 alloc_cell alloc_frozen
attribute [local go_sem 10000] pt_eql pt_neq tri_eql
attribute [local irreducible] rWalk
theorem mk_map (n : Int) (w : World) : (Instr.makeMap 87 (some (.int .i64 n))).run Tryz.prog w = .ok (.map (some w.heap.size)) (w.alloc (.map #[] 0)) := by
 unfold Instr.makeMap;simp [asIntOf, go_sem]
attribute [local go_sem] mk_map map_nil
theorem HoldsMap.box {w : World} {b : Nat} {E : Es} (H : HoldsMap eW eT okW w b E) {cs : List Value} {T : TypeId} : HoldsMap eW eT okW (w.alloc (.cells cs.toArray T)) b E := H.alloc _
theorem mnew_1 (a : Option Addr) (cap n : Nat) (L : List Tri3) (hn : Hid (L.length = n)) (hn1 : n ≤ 1000000) (hok : ∀ T ∈ L, okT T) (hx : (putRun [] L).1 = n) (w : World) (Hr : RowAt cT 6 w a L) :
    Calls Tryz.prog 33 #[.slice a n cap] w fun e w' => ∃ mb b, e = .returned (.tuple #[.pointer (some ⟨mb, 0, none⟩), .int .i64 0]) ∧ Box w' mb [.map (some b)] 89 ∧ HoldsMap eW eT okW w' b (putRun [] L).2 ∧ w.heap.size ≤ b ∧ w.heap.size ≤ mb ∧ Below w.heap.size w w' := by
 have cp := fun w' B H R => mput_any (w.heap.size + 1) w.heap.size [] a cap n L hn hn1 hok w' B H R;obtain ⟨r, E, hr⟩ : ∃ r E, putRun [] L = (r, E) := ⟨_, _, rfl⟩;rw [hr] at cp hx;dsimp only at cp hx;have HR := Lib.hid hr;clear hr;subst hx;have hd : decide ((r : Int) < (r : Int)) = false := by simp
 go_enter Tryz.func33, Tryz.ntmps33
 go_wp2_with fail;refine zA1 fun W1 hW => ?_;have BM : Box W1 (w.heap.size + 1) [.map (some w.heap.size)] 89 := by rw [hW]; exact Box.new (by simp)
 have HM : HoldsMap eW eT okW W1 w.heap.size ([] : Es) := by rw [hW]; exact (HoldsMap.made w).alloc _
 have hw : Below w.heap.size w W1 := by rw [hW]; go_grown
 clear hW;refine (cp _ BM HM (Hr.ee hw)).mono ?_;rintro e w2 ⟨rfl, hg, H2⟩;have B2 := BM.turn HM hg;replace hw := zFu hw hg hw.size (Nat.le_refl _);clear hg HM BM;go_wp2
 go_ret2
 exact ⟨_, _, rfl, B2, by rw [HR.out]; exact H2, Nat.le_refl _, by omega, hw⟩
theorem zKm {T : Tri3} (h : okT T) (i : Int) : okP (crn T i) := by
 unfold crn; split
 ·exact h.1
 ·split
  ·exact h.2.1
  ·exact h.2.2
theorem across_1 (mb b : Nat) (E : Es) (T : Tri3) (i : Int) (hk : okT T) (hh : hasE E T = true) (w : World) (Bm : Box w mb [.map (some b)] 89) (Hm : HoldsMap eW eT okW w b E) :
    Calls Tryz.prog 66 #[.pointer (some ⟨mb, 0, none⟩), .agg #[.int .i64 T.A.x, .int .i64 T.A.y, .int .i64 T.B.x, .int .i64 T.B.y, .int .i64 T.C.x, .int .i64 T.C.y], .int .i64 i] w fun e w' => e = .returned (.tuple #[eT (lftE E (crn T (i + 1)) (crn T i)).1, .bool (lftE E (crn T (i + 1)) (crn T i)).2]) ∧ Below w.heap.size w w' := by
 have ch := zJo mb b E T hk;rw [hh] at ch;clear hh;have cl := left_any mb b E (crn T (i + 1)) (crn T i) ⟨zKm hk _, zKm hk _⟩;have ce := zAw T i;generalize lftE E (crn T (i + 1)) (crn T i) = sv at *
 obtain ⟨S, v⟩ := sv;dsimp only at *;generalize crn T i = P at *
 generalize crn T (i + 1) = Q at *
 go_enter Tryz.func66, Tryz.ntmps66
 go_wp2_with fail;refine zA1 fun W1 hW => ?_;obtain ⟨Bt, Br, hw⟩ := N2 hW;clear hW;refine (ch _ (Bm.ee hw) (Hm.ee hw)).mono ?_;rintro e w2 ⟨rfl, hb⟩;obtain ⟨Bt, Br, hw, -⟩ := X2 Bt Br hw hb;clear hb;have Ft := Bt.f;have Fr := Br.f;go_wp2_with fail;refine (ce _).mono ?_;rintro e w3 ⟨rfl, hb⟩;clear Ft Fr;obtain ⟨Bt, Br, hw, -⟩ := X2 Bt Br hw hb;clear hb;have Ft := Bt.f;have Fr := Br.f;go_wp2_with fail;refine zA1 fun W4 hW => ?_;obtain ⟨bkp, hbp⟩ : ∃ b, w3.heap.size = b := ⟨_, rfl⟩;rw [hbp];have ltp := Bt.lt;rw [hbp] at ltp;have lrp := Br.lt;rw [hbp] at lrp;have fp := hw.size;rw [hbp] at fp;have Bp : Box W4 (bkp) [.int .i64 P.x, .int .i64 P.y] 30 := by rw [hW, ← hbp]; exact (Box.new rfl).old _
 have Bq : Box W4 (bkp + 1) [.int .i64 Q.x, .int .i64 Q.y] 30 := by rw [hW, ← hbp]; exact Box.new (by simp)
 replace Bt : Box W4 (w.heap.size) [.int .i64 T.A.x, .int .i64 T.A.y, .int .i64 T.B.x, .int .i64 T.B.y, .int .i64 T.C.x, .int .i64 T.C.y] 38 := by rw [hW]; exact ((Bt).old _).old _
 replace Br : Box W4 (w.heap.size + 1) [.int .i64 0, .int .i64 0, .int .i64 0, .int .i64 0, .int .i64 0, .int .i64 0] 38 := by rw [hW]; exact ((Br).old _).old _
 replace hw : Below w.heap.size w W4 := by have hl := hw.size; rw [hW]; go_grown
 clear hW hbp;refine (cl _ (Bm.ee hw) (Hm.ee hw)).mono ?_;rintro e w5 ⟨rfl, hb⟩;clear Ft Fr;obtain ⟨Bt, Br, Bp, Bq, hw, -⟩ := X4 Bt Br Bp Bq hw hb;clear hb;have Ft := Bt.f;have Fr := Br.f;have Fp := Bp.f;have Fq := Bq.f;go_wp2_with fail;refine bodyPost_ret (v := .tuple #[.agg #[.int .i64 S.A.x, .int .i64 S.A.y, .int .i64 S.B.x, .int .i64 S.B.y, .int .i64 S.C.x, .int .i64 S.C.y], .bool v]) (by simp [results, Tryz.results66, go_sem, Fr]) rfl ⟨rfl, by have hl := hw.size; go_grown⟩
theorem across_0 (mb b : Nat) (E : Es) (T : Tri3) (i : Int) (hk : okT T) (hh : hasE E T = false) (w : World) (Bm : Box w mb [.map (some b)] 89) (Hm : HoldsMap eW eT okW w b E) :
    Calls Tryz.prog 66 #[.pointer (some ⟨mb, 0, none⟩), .agg #[.int .i64 T.A.x, .int .i64 T.A.y, .int .i64 T.B.x, .int .i64 T.B.y, .int .i64 T.C.x, .int .i64 T.C.y], .int .i64 i] w fun e w' => e = .returned (.tuple #[.agg #[.int .i64 0, .int .i64 0, .int .i64 0, .int .i64 0, .int .i64 0, .int .i64 0], .bool false]) ∧ Below w.heap.size w w' := by
 have ch := zJo mb b E T hk;rw [hh] at ch;clear hh
 go_enter Tryz.func66, Tryz.ntmps66
 go_wp2_with fail;refine zA1 fun W1 hW => ?_;obtain ⟨Bt, Br, hw⟩ := N2 hW;clear hW;refine (ch _ (Bm.ee hw) (Hm.ee hw)).mono ?_;rintro e w2 ⟨rfl, hb⟩;obtain ⟨Bt, Br, hw, -⟩ := X2 Bt Br hw hb;clear hb;have Ft := Bt.f;have Fr := Br.f;go_wp2_with fail;refine bodyPost_ret (v := .tuple #[.agg #[.int .i64 0, .int .i64 0, .int .i64 0, .int .i64 0, .int .i64 0, .int .i64 0], .bool false]) (by simp [results, Tryz.results66, go_sem, Fr]) rfl ⟨rfl, by have hl := hw.size; go_grown⟩
def acrE (E : Es) (T : Tri3) (i : Int) : Tri3 × Bool := if hasE E T = true then lftE E (crn T (i + 1)) (crn T i) else (⟨⟨0, 0⟩, ⟨0, 0⟩, ⟨0, 0⟩⟩, false)
theorem zF4 (mb b : Nat) (E : Es) (T : Tri3) (i : Int) (hk : okT T) (w : World) (Bm : Box w mb [.map (some b)] 89) (Hm : HoldsMap eW eT okW w b E) :
    Calls Tryz.prog 66 #[.pointer (some ⟨mb, 0, none⟩), .agg #[.int .i64 T.A.x, .int .i64 T.A.y, .int .i64 T.B.x, .int .i64 T.B.y, .int .i64 T.C.x, .int .i64 T.C.y], .int .i64 i] w fun e w' => e = .returned (.tuple #[eT (acrE E T i).1, .bool (acrE E T i).2]) ∧ Below w.heap.size w w' := by
 unfold acrE;cases hh : hasE E T with
 | true => rw [if_pos rfl]; exact across_1 mb b E T i hk hh w Bm Hm
 | false => rw [if_neg (by decide)]; exact across_0 mb b E T i hk hh w Bm Hm
end Go.Proofs.YtmobnmjjmafibaaGreat
namespace Go.Proofs.YtmobnmjjmafibaaGreat
open Go.RowKit Go.Sort
attribute [local go_sem] rOper rAt rUpon cell_set sg_i64 sg_u64 alloc_cell alloc_frozen
attribute [local go_sem 10000] pt_eql pt_neq tri_eql
attribute [local irreducible] rWalk
def apx (T : Tri3) (a b : Pt) : Pt := if peqI T.A.x T.A.y a.x a.y = false ∧ peqI T.A.x T.A.y b.x b.y = false then T.A else if peqI T.B.x T.B.y a.x a.y = false ∧ peqI T.B.x T.B.y b.x b.y = false then T.B else T.C
theorem zJ9 : Tryz.prog.underlying 91 = some (.array 3 30) := by kernel_rfl
theorem idx_0 (a b c d e f : Value) (w : World) : (Instr.index 91 (.agg #[a, b, c, d, e, f]) (.int .i64 0)).run Tryz.prog w = .ok (.agg #[a, b]) w := by
 simp [Instr.index, run_underlying zJ9, asIntOf, part, go_sem]
theorem idx_1 (a b c d e f : Value) (w : World) : (Instr.index 91 (.agg #[a, b, c, d, e, f]) (.int .i64 1)).run Tryz.prog w = .ok (.agg #[c, d]) w := by
 simp [Instr.index, run_underlying zJ9, asIntOf, part, go_sem]
theorem idx_2 (a b c d e f : Value) (w : World) : (Instr.index 91 (.agg #[a, b, c, d, e, f]) (.int .i64 2)).run Tryz.prog w = .ok (.agg #[e, f]) w := by
 simp [Instr.index, run_underlying zJ9, asIntOf, part, go_sem]
attribute [local go_sem 10000] idx_0 idx_1 idx_2
theorem rcorner_0 (T : Tri3) (i : Int) (h : plc i = 0) (w : World) :
    Calls Tryz.prog 23 #[.agg #[.int .i64 T.A.x, .int .i64 T.A.y, .int .i64 T.B.x, .int .i64 T.B.y, .int .i64 T.C.x, .int .i64 T.C.y], .int .i64 i] w fun e w' => e = .returned (.agg #[.int .i64 T.A.x, .int .i64 T.A.y]) ∧ Below w.heap.size w w' := by
 have e := zG8 i;rw [h] at e;have e2 : (IntKind.i64.wrap (i.tmod 3 + 3)).tmod 3 = 0 := by rw [← e, IntKind.wrap_i64, w64]
 clear h
 go_enter Tryz.func23, Tryz.ntmps23
 go_wp2_with fail;refine bodyPost_ret (v := .agg #[.int .i64 T.A.x, .int .i64 T.A.y]) (by simp [results, Tryz.results23, go_sem]) rfl ⟨rfl, by go_grown⟩
theorem rcorner_1 (T : Tri3) (i : Int) (h : plc i = 1) (w : World) :
    Calls Tryz.prog 23 #[.agg #[.int .i64 T.A.x, .int .i64 T.A.y, .int .i64 T.B.x, .int .i64 T.B.y, .int .i64 T.C.x, .int .i64 T.C.y], .int .i64 i] w fun e w' => e = .returned (.agg #[.int .i64 T.B.x, .int .i64 T.B.y]) ∧ Below w.heap.size w w' := by
 have e := zG8 i;rw [h] at e;have e2 : (IntKind.i64.wrap (i.tmod 3 + 3)).tmod 3 = 1 := by rw [← e, IntKind.wrap_i64, w64]
 clear h
 go_enter Tryz.func23, Tryz.ntmps23
 go_wp2_with fail;refine bodyPost_ret (v := .agg #[.int .i64 T.B.x, .int .i64 T.B.y]) (by simp [results, Tryz.results23, go_sem]) rfl ⟨rfl, by go_grown⟩
theorem rcorner_2 (T : Tri3) (i : Int) (h : plc i = 2) (w : World) :
    Calls Tryz.prog 23 #[.agg #[.int .i64 T.A.x, .int .i64 T.A.y, .int .i64 T.B.x, .int .i64 T.B.y, .int .i64 T.C.x, .int .i64 T.C.y], .int .i64 i] w fun e w' => e = .returned (.agg #[.int .i64 T.C.x, .int .i64 T.C.y]) ∧ Below w.heap.size w w' := by
 have e := zG8 i;rw [h] at e;have e2 : (IntKind.i64.wrap (i.tmod 3 + 3)).tmod 3 = 2 := by rw [← e, IntKind.wrap_i64, w64]
 clear h
 go_enter Tryz.func23, Tryz.ntmps23
 go_wp2_with fail;refine bodyPost_ret (v := .agg #[.int .i64 T.C.x, .int .i64 T.C.y]) (by simp [results, Tryz.results23, go_sem]) rfl ⟨rfl, by go_grown⟩
theorem zB0 (T : Tri3) (i : Int) (w : World) :
    Calls Tryz.prog 23 #[.agg #[.int .i64 T.A.x, .int .i64 T.A.y, .int .i64 T.B.x, .int .i64 T.B.y, .int .i64 T.C.x, .int .i64 T.C.y], .int .i64 i] w fun e w' => e = .returned (.agg #[.int .i64 (crn T i).x, .int .i64 (crn T i).y]) ∧ Below w.heap.size w w' := by
 rcases zG7 i with h | h | h
 ·rw [show crn T i = T.A by unfold crn; simp [h]]; exact rcorner_0 T i h w
 ·rw [show crn T i = T.B by unfold crn; simp [h]]; exact rcorner_1 T i h w
 ·rw [show crn T i = T.C by unfold crn; simp [h]]; exact rcorner_2 T i h w
def cmpT (S T : Tri3) : Int := if cmpP S.A T.A ≠ 0 then cmpP S.A T.A else if cmpP S.B T.B ≠ 0 then cmpP S.B T.B else cmpP S.C T.C
theorem rcmpT_0 (S T : Tri3) (h0 : ¬ cmpP S.A T.A = 0) (w : World) :
    Calls Tryz.prog 51 #[.agg #[.int .i64 S.A.x, .int .i64 S.A.y, .int .i64 S.B.x, .int .i64 S.B.y, .int .i64 S.C.x, .int .i64 S.C.y], .agg #[.int .i64 T.A.x, .int .i64 T.A.y, .int .i64 T.B.x, .int .i64 T.B.y, .int .i64 T.C.x, .int .i64 T.C.y]] w fun e w' => e = .returned (.int .i64 (cmpP S.A T.A)) ∧ Below w.heap.size w w' := by
 have c1 := zAb S.A T.A;have hd : (cmpP S.A T.A == 0) = false := by simpa using h0
 clear h0;generalize cmpP S.A T.A = n at *
 go_enter Tryz.func51, Tryz.ntmps51
 go_wp2_with fail;refine zA1 fun W1 hW => ?_;obtain ⟨Bs, Bt, hw⟩ := N2 hW;clear hW;refine (c1 _).mono ?_;rintro e w2 ⟨rfl, hb⟩;obtain ⟨Bs, Bt, hw, F_st⟩ := X2 Bs Bt hw hb;clear hb;go_wp2
 go_ret
 exact ⟨rfl, by have hl := hw.size; go_grown⟩
theorem rcmpT_1 (S T : Tri3) (h0 : cmpP S.A T.A = 0) (h1 : ¬ cmpP S.B T.B = 0) (w : World) :
    Calls Tryz.prog 51 #[.agg #[.int .i64 S.A.x, .int .i64 S.A.y, .int .i64 S.B.x, .int .i64 S.B.y, .int .i64 S.C.x, .int .i64 S.C.y], .agg #[.int .i64 T.A.x, .int .i64 T.A.y, .int .i64 T.B.x, .int .i64 T.B.y, .int .i64 T.C.x, .int .i64 T.C.y]] w fun e w' => e = .returned (.int .i64 (cmpP S.B T.B)) ∧ Below w.heap.size w w' := by
 have c1 := zAb S.A T.A;have c2 := zAb S.B T.B;rw [h0] at c1;have hd : (cmpP S.B T.B == 0) = false := by simpa using h1
 clear h0 h1;generalize cmpP S.B T.B = n at *
 go_enter Tryz.func51, Tryz.ntmps51
 go_wp2_with fail;refine zA1 fun W1 hW => ?_;obtain ⟨Bs, Bt, hw⟩ := N2 hW;clear hW;refine (c1 _).mono ?_;rintro e w2 ⟨rfl, hb⟩;obtain ⟨Bs, Bt, hw, F_st⟩ := X2 Bs Bt hw hb;clear hb;go_wp2_with fail;refine (c2 _).mono ?_;rintro e w3 ⟨rfl, hb⟩;clear F_st;obtain ⟨Bs, Bt, hw, F_st⟩ := X2 Bs Bt hw hb;clear hb;go_wp2
 go_ret
 exact ⟨rfl, by have hl := hw.size; go_grown⟩
theorem rcmpT_2 (S T : Tri3) (h0 : cmpP S.A T.A = 0) (h1 : cmpP S.B T.B = 0) (w : World) :
    Calls Tryz.prog 51 #[.agg #[.int .i64 S.A.x, .int .i64 S.A.y, .int .i64 S.B.x, .int .i64 S.B.y, .int .i64 S.C.x, .int .i64 S.C.y], .agg #[.int .i64 T.A.x, .int .i64 T.A.y, .int .i64 T.B.x, .int .i64 T.B.y, .int .i64 T.C.x, .int .i64 T.C.y]] w fun e w' => e = .returned (.int .i64 (cmpP S.C T.C)) ∧ Below w.heap.size w w' := by
 have c1 := zAb S.A T.A;have c2 := zAb S.B T.B;have c3 := zAb S.C T.C;rw [h0] at c1;rw [h1] at c2;clear h0 h1;generalize cmpP S.C T.C = n at *
 go_enter Tryz.func51, Tryz.ntmps51
 go_wp2_with fail;refine zA1 fun W1 hW => ?_;obtain ⟨Bs, Bt, hw⟩ := N2 hW;clear hW;refine (c1 _).mono ?_;rintro e w2 ⟨rfl, hb⟩;obtain ⟨Bs, Bt, hw, F_st⟩ := X2 Bs Bt hw hb;clear hb;go_wp2_with fail;refine (c2 _).mono ?_;rintro e w3 ⟨rfl, hb⟩;clear F_st;obtain ⟨Bs, Bt, hw, F_st⟩ := X2 Bs Bt hw hb;clear hb;go_wp2_with fail;refine (c3 _).mono ?_;rintro e w4 ⟨rfl, hb⟩;clear F_st;obtain ⟨Bs, Bt, hw, F_st⟩ := X2 Bs Bt hw hb;clear hb;go_wp2
 go_ret
 exact ⟨rfl, by have hl := hw.size; go_grown⟩
theorem rcmpT_any (S T : Tri3) (w : World) :
    Calls Tryz.prog 51 #[.agg #[.int .i64 S.A.x, .int .i64 S.A.y, .int .i64 S.B.x, .int .i64 S.B.y, .int .i64 S.C.x, .int .i64 S.C.y], .agg #[.int .i64 T.A.x, .int .i64 T.A.y, .int .i64 T.B.x, .int .i64 T.B.y, .int .i64 T.C.x, .int .i64 T.C.y]] w fun e w' => e = .returned (.int .i64 (cmpT S T)) ∧ Below w.heap.size w w' := by
 by_cases h0 : cmpP S.A T.A = 0
 ·by_cases h1 : cmpP S.B T.B = 0
  ·rw [show cmpT S T = cmpP S.C T.C by unfold cmpT; simp [h0, h1]]; exact rcmpT_2 S T h0 h1 w
  ·rw [show cmpT S T = cmpP S.B T.B by unfold cmpT; simp [h0, h1]]; exact rcmpT_1 S T h0 h1 w
 ·rw [show cmpT S T = cmpP S.A T.A by unfold cmpT; simp [h0]]; exact rcmpT_0 S T h0 w
def or3 (x y z : Int) : Int := if x ≠ 0 then x else if y ≠ 0 then y else z
theorem zJ8 {T : Tri3} (h : valT T = true) : vld T.A = true ∧ vld T.B = true ∧ vld T.C = true := by
 rw [zKd] at h;unfold valS at h;simp only [Bool.and_eq_true, decide_eq_true_eq] at h;exact zCq (by omega)
end Go.Proofs.YtmobnmjjmafibaaGreat
namespace Go.Proofs.YtmobnmjjmafibaaGreat
open Go.RowKit Go.Sort
attribute [local go_sem] rOper rAt rUpon cell_set sg_i64 sg_u64 alloc_cell alloc_frozen
attribute [local go_sem 10000] pt_eql pt_neq tri_eql
attribute [local irreducible] rWalk
theorem zHo (T : Tri3) (w : World) : Calls Tryz.prog 23 #[.agg #[.int .i64 T.A.x, .int .i64 T.A.y, .int .i64 T.B.x, .int .i64 T.B.y, .int .i64 T.C.x, .int .i64 T.C.y], .int .i64 0] w fun e w' => e = .returned (.agg #[.int .i64 T.A.x, .int .i64 T.A.y]) ∧ Below w.heap.size w w' := zB0 T 0 w
theorem zJ2 (T : Tri3) (w : World) : Calls Tryz.prog 23 #[.agg #[.int .i64 T.A.x, .int .i64 T.A.y, .int .i64 T.B.x, .int .i64 T.B.y, .int .i64 T.C.x, .int .i64 T.C.y], .int .i64 1] w fun e w' => e = .returned (.agg #[.int .i64 T.B.x, .int .i64 T.B.y]) ∧ Below w.heap.size w w' := zB0 T 1 w
theorem far_0 (T : Tri3) (a b : Pt) (ha0 : peqI T.A.x T.A.y a.x a.y = false) (hb0 : peqI T.A.x T.A.y b.x b.y = false) (w : World) :
    Calls Tryz.prog 84 #[.agg #[.int .i64 T.A.x, .int .i64 T.A.y, .int .i64 T.B.x, .int .i64 T.B.y, .int .i64 T.C.x, .int .i64 T.C.y], .agg #[.int .i64 a.x, .int .i64 a.y], .agg #[.int .i64 b.x, .int .i64 b.y]] w fun e w' => e = .returned (.agg #[.int .i64 T.A.x, .int .i64 T.A.y]) ∧ Below w.heap.size w w' := by
 have cc0 := zHo T
 go_enter Tryz.func84, Tryz.ntmps84
 go_wp2_with fail;refine zA3 fun W1 hW => ?_;obtain ⟨Bt, Ba, Bb, Br, hw⟩ := N4 hW;clear hW;refine wp_loop_rounds 4 ?_;try rw [rounds_succ]
 have Ft := Bt.f;have Fa := Ba.f;have Fb := Bb.f;have Fr := Br.f;go_wp2_with fail;have g_tabr := J4 Bt.cells Ba.cells Bb.cells Br.cells;refine wrt 11 (by kernel_rfl) (by kernel_rfl) ?_;simp only [tK1, tK0, dP1, dP0];repeat (first | (refine zA0 (Eq.refl false) ?_; simp only [Act.put, sT2, sT1, sT0]) | (refine rWalk_step (fun K hK => ?_); go_simp; first | (refine hK _ ?_; clear hK K) | (apply Exists.intro; refine ⟨fun _ => ?_, hK _ ?_⟩; (first | with_reducible exact toExt cc0 _); clear hK K)))
 refine rWalk_nil ?_;intro w2 hb;clear g_tabr;clear Ft Fa Fb Fr;obtain ⟨Bt, Ba, Bb, Br, hw, -⟩ := X4 Bt Ba Bb Br hw hb;have Ft := Bt.f;have Fa := Ba.f;have Fb := Bb.f;have Fr := Br.f;go_wp2_with fail;refine (cc0 _).mono ?_;rintro e w3 ⟨rfl, hb⟩;clear Ft Fa Fb Fr;obtain ⟨Bt, Ba, Bb, Br, hw, -⟩ := X4 Bt Ba Bb Br hw hb;clear hb;have Ft := Bt.f;have Fa := Ba.f;have Fb := Bb.f;have Fr := Br.f;go_wp2_with fail;refine bodyPost_ret (v := .agg #[.int .i64 T.A.x, .int .i64 T.A.y]) (by simp [results, Tryz.results84, go_sem, Fr]) rfl ⟨rfl, by have hl := hw.size; go_grown⟩
theorem far_10 (T : Tri3) (a b : Pt) (ha0 : peqI T.A.x T.A.y a.x a.y = true) (ha1 : peqI T.B.x T.B.y a.x a.y = false) (hb1 : peqI T.B.x T.B.y b.x b.y = false) (w : World) :
    Calls Tryz.prog 84 #[.agg #[.int .i64 T.A.x, .int .i64 T.A.y, .int .i64 T.B.x, .int .i64 T.B.y, .int .i64 T.C.x, .int .i64 T.C.y], .agg #[.int .i64 a.x, .int .i64 a.y], .agg #[.int .i64 b.x, .int .i64 b.y]] w fun e w' => e = .returned (.agg #[.int .i64 T.B.x, .int .i64 T.B.y]) ∧ Below w.heap.size w w' := by
 have cc0 := zHo T;have cc1 := zJ2 T
 go_enter Tryz.func84, Tryz.ntmps84
 go_wp2_with fail;refine zA3 fun W1 hW => ?_;obtain ⟨Bt, Ba, Bb, Br, hw⟩ := N4 hW;clear hW;refine wp_loop_rounds 4 ?_;try rw [rounds_succ]
 have Ft := Bt.f;have Fa := Ba.f;have Fb := Bb.f;have Fr := Br.f;go_wp2_with fail;have g_tabr := J4 Bt.cells Ba.cells Bb.cells Br.cells;refine wrt 11 (by kernel_rfl) (by kernel_rfl) ?_;simp only [tK1, tK0, dP1, dP0];repeat (first | (refine zA0 (Eq.refl false) ?_; simp only [Act.put, sT2, sT1, sT0]) | (refine rWalk_step (fun K hK => ?_); go_simp; first | (refine hK _ ?_; clear hK K) | (apply Exists.intro; refine ⟨fun _ => ?_, hK _ ?_⟩; (first | with_reducible exact toExt cc0 _); clear hK K)))
 refine rWalk_nil ?_;intro w2 hb;clear g_tabr;clear Ft Fa Fb Fr;obtain ⟨Bt, Ba, Bb, Br, hw, -⟩ := X4 Bt Ba Bb Br hw hb;have Ft := Bt.f;have Fa := Ba.f;have Fb := Bb.f;have Fr := Br.f;go_wp2_with fail;clear Ft Fa Fb Fr;try rw [rounds_succ]
 have Ft := Bt.f;have Fa := Ba.f;have Fb := Bb.f;have Fr := Br.f;go_wp2_with fail;have g_tabr := J4 Bt.cells Ba.cells Bb.cells Br.cells;refine wrt 11 (by kernel_rfl) (by kernel_rfl) ?_;simp only [tK1, tK0, dP1, dP0];repeat (first | (refine zA0 (Eq.refl false) ?_; simp only [Act.put, sT2, sT1, sT0]) | (refine rWalk_step (fun K hK => ?_); go_simp; first | (refine hK _ ?_; clear hK K) | (apply Exists.intro; refine ⟨fun _ => ?_, hK _ ?_⟩; (first | with_reducible exact toExt cc1 _); clear hK K)))
 refine rWalk_nil ?_;intro w3 hb;clear g_tabr;clear Ft Fa Fb Fr;obtain ⟨Bt, Ba, Bb, Br, hw, -⟩ := X4 Bt Ba Bb Br hw hb;have Ft := Bt.f;have Fa := Ba.f;have Fb := Bb.f;have Fr := Br.f;go_wp2_with fail;refine (cc1 _).mono ?_;rintro e w4 ⟨rfl, hb⟩;clear Ft Fa Fb Fr;obtain ⟨Bt, Ba, Bb, Br, hw, -⟩ := X4 Bt Ba Bb Br hw hb;clear hb;have Ft := Bt.f;have Fa := Ba.f;have Fb := Bb.f;have Fr := Br.f;go_wp2_with fail;refine bodyPost_ret (v := .agg #[.int .i64 T.B.x, .int .i64 T.B.y]) (by simp [results, Tryz.results84, go_sem, Fr]) rfl ⟨rfl, by have hl := hw.size; go_grown⟩
theorem far_11 (T : Tri3) (a b : Pt) (ha0 : peqI T.A.x T.A.y a.x a.y = true) (ha1 : peqI T.B.x T.B.y a.x a.y = true) (w : World) :
    Calls Tryz.prog 84 #[.agg #[.int .i64 T.A.x, .int .i64 T.A.y, .int .i64 T.B.x, .int .i64 T.B.y, .int .i64 T.C.x, .int .i64 T.C.y], .agg #[.int .i64 a.x, .int .i64 a.y], .agg #[.int .i64 b.x, .int .i64 b.y]] w fun e w' => e = .returned (.agg #[.int .i64 T.C.x, .int .i64 T.C.y]) ∧ Below w.heap.size w w' := by
 have cc0 := zHo T;have cc1 := zJ2 T
 go_enter Tryz.func84, Tryz.ntmps84
 go_wp2_with fail;refine zA3 fun W1 hW => ?_;obtain ⟨Bt, Ba, Bb, Br, hw⟩ := N4 hW;clear hW;refine wp_loop_rounds 4 ?_;try rw [rounds_succ]
 have Ft := Bt.f;have Fa := Ba.f;have Fb := Bb.f;have Fr := Br.f;go_wp2_with fail;have g_tabr := J4 Bt.cells Ba.cells Bb.cells Br.cells;refine wrt 11 (by kernel_rfl) (by kernel_rfl) ?_;simp only [tK1, tK0, dP1, dP0];repeat (first | (refine zA0 (Eq.refl false) ?_; simp only [Act.put, sT2, sT1, sT0]) | (refine rWalk_step (fun K hK => ?_); go_simp; first | (refine hK _ ?_; clear hK K) | (apply Exists.intro; refine ⟨fun _ => ?_, hK _ ?_⟩; (first | with_reducible exact toExt cc0 _); clear hK K)))
 refine rWalk_nil ?_;intro w2 hb;clear g_tabr;clear Ft Fa Fb Fr;obtain ⟨Bt, Ba, Bb, Br, hw, -⟩ := X4 Bt Ba Bb Br hw hb;have Ft := Bt.f;have Fa := Ba.f;have Fb := Bb.f;have Fr := Br.f;go_wp2_with fail;clear Ft Fa Fb Fr;try rw [rounds_succ]
 have Ft := Bt.f;have Fa := Ba.f;have Fb := Bb.f;have Fr := Br.f;go_wp2_with fail;have g_tabr := J4 Bt.cells Ba.cells Bb.cells Br.cells;refine wrt 11 (by kernel_rfl) (by kernel_rfl) ?_;simp only [tK1, tK0, dP1, dP0];repeat (first | (refine zA0 (Eq.refl false) ?_; simp only [Act.put, sT2, sT1, sT0]) | (refine rWalk_step (fun K hK => ?_); go_simp; first | (refine hK _ ?_; clear hK K) | (apply Exists.intro; refine ⟨fun _ => ?_, hK _ ?_⟩; (first | with_reducible exact toExt cc1 _); clear hK K)))
 refine rWalk_nil ?_;intro w3 hb;clear g_tabr;clear Ft Fa Fb Fr;obtain ⟨Bt, Ba, Bb, Br, hw, -⟩ := X4 Bt Ba Bb Br hw hb;have Ft := Bt.f;have Fa := Ba.f;have Fb := Bb.f;have Fr := Br.f;go_wp2_with fail;clear Ft Fa Fb Fr;try rw [rounds_succ]
 have Ft := Bt.f;have Fa := Ba.f;have Fb := Bb.f;have Fr := Br.f;go_wp2_with fail;refine bodyPost_ret (v := .agg #[.int .i64 T.C.x, .int .i64 T.C.y]) (by simp [results, Tryz.results84, go_sem, Fr]) rfl ⟨rfl, by have hl := hw.size; go_grown⟩
theorem far_12 (T : Tri3) (a b : Pt) (ha0 : peqI T.A.x T.A.y a.x a.y = true) (ha1 : peqI T.B.x T.B.y a.x a.y = false) (hb1 : peqI T.B.x T.B.y b.x b.y = true) (w : World) :
    Calls Tryz.prog 84 #[.agg #[.int .i64 T.A.x, .int .i64 T.A.y, .int .i64 T.B.x, .int .i64 T.B.y, .int .i64 T.C.x, .int .i64 T.C.y], .agg #[.int .i64 a.x, .int .i64 a.y], .agg #[.int .i64 b.x, .int .i64 b.y]] w fun e w' => e = .returned (.agg #[.int .i64 T.C.x, .int .i64 T.C.y]) ∧ Below w.heap.size w w' := by
 have cc0 := zHo T;have cc1 := zJ2 T
 go_enter Tryz.func84, Tryz.ntmps84
 go_wp2_with fail;refine zA3 fun W1 hW => ?_;obtain ⟨Bt, Ba, Bb, Br, hw⟩ := N4 hW;clear hW;refine wp_loop_rounds 4 ?_;try rw [rounds_succ]
 have Ft := Bt.f;have Fa := Ba.f;have Fb := Bb.f;have Fr := Br.f;go_wp2_with fail;have g_tabr := J4 Bt.cells Ba.cells Bb.cells Br.cells;refine wrt 11 (by kernel_rfl) (by kernel_rfl) ?_;simp only [tK1, tK0, dP1, dP0];repeat (first | (refine zA0 (Eq.refl false) ?_; simp only [Act.put, sT2, sT1, sT0]) | (refine rWalk_step (fun K hK => ?_); go_simp; first | (refine hK _ ?_; clear hK K) | (apply Exists.intro; refine ⟨fun _ => ?_, hK _ ?_⟩; (first | with_reducible exact toExt cc0 _); clear hK K)))
 refine rWalk_nil ?_;intro w2 hb;clear g_tabr;clear Ft Fa Fb Fr;obtain ⟨Bt, Ba, Bb, Br, hw, -⟩ := X4 Bt Ba Bb Br hw hb;have Ft := Bt.f;have Fa := Ba.f;have Fb := Bb.f;have Fr := Br.f;go_wp2_with fail;clear Ft Fa Fb Fr;try rw [rounds_succ]
 have Ft := Bt.f;have Fa := Ba.f;have Fb := Bb.f;have Fr := Br.f;go_wp2_with fail;have g_tabr := J4 Bt.cells Ba.cells Bb.cells Br.cells;refine wrt 11 (by kernel_rfl) (by kernel_rfl) ?_;simp only [tK1, tK0, dP1, dP0];repeat (first | (refine zA0 (Eq.refl false) ?_; simp only [Act.put, sT2, sT1, sT0]) | (refine rWalk_step (fun K hK => ?_); go_simp; first | (refine hK _ ?_; clear hK K) | (apply Exists.intro; refine ⟨fun _ => ?_, hK _ ?_⟩; (first | with_reducible exact toExt cc1 _); clear hK K)))
 refine rWalk_nil ?_;intro w3 hb;clear g_tabr;clear Ft Fa Fb Fr;obtain ⟨Bt, Ba, Bb, Br, hw, -⟩ := X4 Bt Ba Bb Br hw hb;have Ft := Bt.f;have Fa := Ba.f;have Fb := Bb.f;have Fr := Br.f;go_wp2_with fail;clear Ft Fa Fb Fr;try rw [rounds_succ]
 have Ft := Bt.f;have Fa := Ba.f;have Fb := Bb.f;have Fr := Br.f;go_wp2_with fail;refine bodyPost_ret (v := .agg #[.int .i64 T.C.x, .int .i64 T.C.y]) (by simp [results, Tryz.results84, go_sem, Fr]) rfl ⟨rfl, by have hl := hw.size; go_grown⟩
theorem far_20 (T : Tri3) (a b : Pt) (ha0 : peqI T.A.x T.A.y a.x a.y = false) (hb0 : peqI T.A.x T.A.y b.x b.y = true) (ha1 : peqI T.B.x T.B.y a.x a.y = false) (hb1 : peqI T.B.x T.B.y b.x b.y = false) (w : World) :
    Calls Tryz.prog 84 #[.agg #[.int .i64 T.A.x, .int .i64 T.A.y, .int .i64 T.B.x, .int .i64 T.B.y, .int .i64 T.C.x, .int .i64 T.C.y], .agg #[.int .i64 a.x, .int .i64 a.y], .agg #[.int .i64 b.x, .int .i64 b.y]] w fun e w' => e = .returned (.agg #[.int .i64 T.B.x, .int .i64 T.B.y]) ∧ Below w.heap.size w w' := by
 have cc0 := zHo T;have cc1 := zJ2 T
 go_enter Tryz.func84, Tryz.ntmps84
 go_wp2_with fail;refine zA3 fun W1 hW => ?_;obtain ⟨Bt, Ba, Bb, Br, hw⟩ := N4 hW;clear hW;refine wp_loop_rounds 4 ?_;try rw [rounds_succ]
 have Ft := Bt.f;have Fa := Ba.f;have Fb := Bb.f;have Fr := Br.f;go_wp2_with fail;have g_tabr := J4 Bt.cells Ba.cells Bb.cells Br.cells;refine wrt 11 (by kernel_rfl) (by kernel_rfl) ?_;simp only [tK1, tK0, dP1, dP0];repeat (first | (refine zA0 (Eq.refl false) ?_; simp only [Act.put, sT2, sT1, sT0]) | (refine rWalk_step (fun K hK => ?_); go_simp; first | (refine hK _ ?_; clear hK K) | (apply Exists.intro; refine ⟨fun _ => ?_, hK _ ?_⟩; (first | with_reducible exact toExt cc0 _); clear hK K)))
 refine rWalk_nil ?_;intro w2 hb;clear g_tabr;clear Ft Fa Fb Fr;obtain ⟨Bt, Ba, Bb, Br, hw, -⟩ := X4 Bt Ba Bb Br hw hb;have Ft := Bt.f;have Fa := Ba.f;have Fb := Bb.f;have Fr := Br.f;go_wp2_with fail;clear Ft Fa Fb Fr;try rw [rounds_succ]
 have Ft := Bt.f;have Fa := Ba.f;have Fb := Bb.f;have Fr := Br.f;go_wp2_with fail;have g_tabr := J4 Bt.cells Ba.cells Bb.cells Br.cells;refine wrt 11 (by kernel_rfl) (by kernel_rfl) ?_;simp only [tK1, tK0, dP1, dP0];repeat (first | (refine zA0 (Eq.refl false) ?_; simp only [Act.put, sT2, sT1, sT0]) | (refine rWalk_step (fun K hK => ?_); go_simp; first | (refine hK _ ?_; clear hK K) | (apply Exists.intro; refine ⟨fun _ => ?_, hK _ ?_⟩; (first | with_reducible exact toExt cc1 _); clear hK K)))
 refine rWalk_nil ?_;intro w3 hb;clear g_tabr;clear Ft Fa Fb Fr;obtain ⟨Bt, Ba, Bb, Br, hw, -⟩ := X4 Bt Ba Bb Br hw hb;have Ft := Bt.f;have Fa := Ba.f;have Fb := Bb.f;have Fr := Br.f;go_wp2_with fail;refine (cc1 _).mono ?_;rintro e w4 ⟨rfl, hb⟩;clear Ft Fa Fb Fr;obtain ⟨Bt, Ba, Bb, Br, hw, -⟩ := X4 Bt Ba Bb Br hw hb;clear hb;have Ft := Bt.f;have Fa := Ba.f;have Fb := Bb.f;have Fr := Br.f;go_wp2_with fail;refine bodyPost_ret (v := .agg #[.int .i64 T.B.x, .int .i64 T.B.y]) (by simp [results, Tryz.results84, go_sem, Fr]) rfl ⟨rfl, by have hl := hw.size; go_grown⟩
theorem far_21 (T : Tri3) (a b : Pt) (ha0 : peqI T.A.x T.A.y a.x a.y = false) (hb0 : peqI T.A.x T.A.y b.x b.y = true) (ha1 : peqI T.B.x T.B.y a.x a.y = true) (w : World) :
    Calls Tryz.prog 84 #[.agg #[.int .i64 T.A.x, .int .i64 T.A.y, .int .i64 T.B.x, .int .i64 T.B.y, .int .i64 T.C.x, .int .i64 T.C.y], .agg #[.int .i64 a.x, .int .i64 a.y], .agg #[.int .i64 b.x, .int .i64 b.y]] w fun e w' => e = .returned (.agg #[.int .i64 T.C.x, .int .i64 T.C.y]) ∧ Below w.heap.size w w' := by
 have cc0 := zHo T;have cc1 := zJ2 T
 go_enter Tryz.func84, Tryz.ntmps84
 go_wp2_with fail;refine zA3 fun W1 hW => ?_;obtain ⟨Bt, Ba, Bb, Br, hw⟩ := N4 hW;clear hW;refine wp_loop_rounds 4 ?_;try rw [rounds_succ]
 have Ft := Bt.f;have Fa := Ba.f;have Fb := Bb.f;have Fr := Br.f;go_wp2_with fail;have g_tabr := J4 Bt.cells Ba.cells Bb.cells Br.cells;refine wrt 11 (by kernel_rfl) (by kernel_rfl) ?_;simp only [tK1, tK0, dP1, dP0];repeat (first | (refine zA0 (Eq.refl false) ?_; simp only [Act.put, sT2, sT1, sT0]) | (refine rWalk_step (fun K hK => ?_); go_simp; first | (refine hK _ ?_; clear hK K) | (apply Exists.intro; refine ⟨fun _ => ?_, hK _ ?_⟩; (first | with_reducible exact toExt cc0 _); clear hK K)))
 refine rWalk_nil ?_;intro w2 hb;clear g_tabr;clear Ft Fa Fb Fr;obtain ⟨Bt, Ba, Bb, Br, hw, -⟩ := X4 Bt Ba Bb Br hw hb;have Ft := Bt.f;have Fa := Ba.f;have Fb := Bb.f;have Fr := Br.f;go_wp2_with fail;clear Ft Fa Fb Fr;try rw [rounds_succ]
 have Ft := Bt.f;have Fa := Ba.f;have Fb := Bb.f;have Fr := Br.f;go_wp2_with fail;have g_tabr := J4 Bt.cells Ba.cells Bb.cells Br.cells;refine wrt 11 (by kernel_rfl) (by kernel_rfl) ?_;simp only [tK1, tK0, dP1, dP0];repeat (first | (refine zA0 (Eq.refl false) ?_; simp only [Act.put, sT2, sT1, sT0]) | (refine rWalk_step (fun K hK => ?_); go_simp; first | (refine hK _ ?_; clear hK K) | (apply Exists.intro; refine ⟨fun _ => ?_, hK _ ?_⟩; (first | with_reducible exact toExt cc1 _); clear hK K)))
 refine rWalk_nil ?_;intro w3 hb;clear g_tabr;clear Ft Fa Fb Fr;obtain ⟨Bt, Ba, Bb, Br, hw, -⟩ := X4 Bt Ba Bb Br hw hb;have Ft := Bt.f;have Fa := Ba.f;have Fb := Bb.f;have Fr := Br.f;go_wp2_with fail;clear Ft Fa Fb Fr;try rw [rounds_succ]
 have Ft := Bt.f;have Fa := Ba.f;have Fb := Bb.f;have Fr := Br.f;go_wp2_with fail;refine bodyPost_ret (v := .agg #[.int .i64 T.C.x, .int .i64 T.C.y]) (by simp [results, Tryz.results84, go_sem, Fr]) rfl ⟨rfl, by have hl := hw.size; go_grown⟩
theorem far_22 (T : Tri3) (a b : Pt) (ha0 : peqI T.A.x T.A.y a.x a.y = false) (hb0 : peqI T.A.x T.A.y b.x b.y = true) (ha1 : peqI T.B.x T.B.y a.x a.y = false) (hb1 : peqI T.B.x T.B.y b.x b.y = true) (w : World) :
    Calls Tryz.prog 84 #[.agg #[.int .i64 T.A.x, .int .i64 T.A.y, .int .i64 T.B.x, .int .i64 T.B.y, .int .i64 T.C.x, .int .i64 T.C.y], .agg #[.int .i64 a.x, .int .i64 a.y], .agg #[.int .i64 b.x, .int .i64 b.y]] w fun e w' => e = .returned (.agg #[.int .i64 T.C.x, .int .i64 T.C.y]) ∧ Below w.heap.size w w' := by
 have cc0 := zHo T;have cc1 := zJ2 T
 go_enter Tryz.func84, Tryz.ntmps84
 go_wp2_with fail;refine zA3 fun W1 hW => ?_;obtain ⟨Bt, Ba, Bb, Br, hw⟩ := N4 hW;clear hW;refine wp_loop_rounds 4 ?_;try rw [rounds_succ]
 have Ft := Bt.f;have Fa := Ba.f;have Fb := Bb.f;have Fr := Br.f;go_wp2_with fail;have g_tabr := J4 Bt.cells Ba.cells Bb.cells Br.cells;refine wrt 11 (by kernel_rfl) (by kernel_rfl) ?_;simp only [tK1, tK0, dP1, dP0];repeat (first | (refine zA0 (Eq.refl false) ?_; simp only [Act.put, sT2, sT1, sT0]) | (refine rWalk_step (fun K hK => ?_); go_simp; first | (refine hK _ ?_; clear hK K) | (apply Exists.intro; refine ⟨fun _ => ?_, hK _ ?_⟩; (first | with_reducible exact toExt cc0 _); clear hK K)))
 refine rWalk_nil ?_;intro w2 hb;clear g_tabr;clear Ft Fa Fb Fr;obtain ⟨Bt, Ba, Bb, Br, hw, -⟩ := X4 Bt Ba Bb Br hw hb;have Ft := Bt.f;have Fa := Ba.f;have Fb := Bb.f;have Fr := Br.f;go_wp2_with fail;clear Ft Fa Fb Fr;try rw [rounds_succ]
 have Ft := Bt.f;have Fa := Ba.f;have Fb := Bb.f;have Fr := Br.f;go_wp2_with fail;have g_tabr := J4 Bt.cells Ba.cells Bb.cells Br.cells;refine wrt 11 (by kernel_rfl) (by kernel_rfl) ?_;simp only [tK1, tK0, dP1, dP0];repeat (first | (refine zA0 (Eq.refl false) ?_; simp only [Act.put, sT2, sT1, sT0]) | (refine rWalk_step (fun K hK => ?_); go_simp; first | (refine hK _ ?_; clear hK K) | (apply Exists.intro; refine ⟨fun _ => ?_, hK _ ?_⟩; (first | with_reducible exact toExt cc1 _); clear hK K)))
 refine rWalk_nil ?_;intro w3 hb;clear g_tabr;clear Ft Fa Fb Fr;obtain ⟨Bt, Ba, Bb, Br, hw, -⟩ := X4 Bt Ba Bb Br hw hb;have Ft := Bt.f;have Fa := Ba.f;have Fb := Bb.f;have Fr := Br.f;go_wp2_with fail;clear Ft Fa Fb Fr;try rw [rounds_succ]
 have Ft := Bt.f;have Fa := Ba.f;have Fb := Bb.f;have Fr := Br.f;go_wp2_with fail;refine bodyPost_ret (v := .agg #[.int .i64 T.C.x, .int .i64 T.C.y]) (by simp [results, Tryz.results84, go_sem, Fr]) rfl ⟨rfl, by have hl := hw.size; go_grown⟩
theorem zBy (T : Tri3) (a b : Pt) (w : World) : Calls Tryz.prog 84 #[.agg #[.int .i64 T.A.x, .int .i64 T.A.y, .int .i64 T.B.x, .int .i64 T.B.y, .int .i64 T.C.x, .int .i64 T.C.y], .agg #[.int .i64 a.x, .int .i64 a.y], .agg #[.int .i64 b.x, .int .i64 b.y]] w fun e w' => e = .returned (.agg #[.int .i64 (apx T a b).x, .int .i64 (apx T a b).y]) ∧ Below w.heap.size w w' := by
 unfold apx;cases a0 : peqI T.A.x T.A.y a.x a.y with
 | false =>
  cases b0 : peqI T.A.x T.A.y b.x b.y with
  | false => simpa using far_0 T a b a0 b0 w
  | true =>
   cases a1 : peqI T.B.x T.B.y a.x a.y with
   | false =>
    cases b1 : peqI T.B.x T.B.y b.x b.y with
    | false => simpa using far_20 T a b a0 b0 a1 b1 w
    | true => simpa using far_22 T a b a0 b0 a1 b1 w
   | true => simpa using far_21 T a b a0 b0 a1 w
 | true =>
  cases a1 : peqI T.B.x T.B.y a.x a.y with
  | false =>
   cases b1 : peqI T.B.x T.B.y b.x b.y with
   | false => simpa using far_10 T a b a0 a1 b1 w
   | true => simpa using far_12 T a b a0 a1 b1 w
  | true => simpa using far_11 T a b a0 a1 w
attribute [local go_sem] rmap_nil
theorem zCc (T : Tri3) (w : World) :
    Calls Tryz.prog 64 #[.agg #[.int .i64 T.A.x, .int .i64 T.A.y, .int .i64 T.B.x, .int .i64 T.B.y, .int .i64 T.C.x, .int .i64 T.C.y]] w fun e w' => e = .returned (.agg #[.int .i64 T.A.x, .int .i64 T.A.y, .int .i64 T.B.x, .int .i64 T.B.y, .int .i64 T.B.x, .int .i64 T.B.y, .int .i64 T.C.x, .int .i64 T.C.y, .int .i64 T.C.x, .int .i64 T.C.y, .int .i64 T.A.x, .int .i64 T.A.y]) ∧ Below w.heap.size w w' := by
 go_enter Tryz.func64, Tryz.ntmps64
 go_wp2_with fail;refine bodyPost_ret (v := .agg #[.int .i64 T.A.x, .int .i64 T.A.y, .int .i64 T.B.x, .int .i64 T.B.y, .int .i64 T.B.x, .int .i64 T.B.y, .int .i64 T.C.x, .int .i64 T.C.y, .int .i64 T.C.x, .int .i64 T.C.y, .int .i64 T.A.x, .int .i64 T.A.y]) (by simp [results, Tryz.results64, go_sem]) rfl ⟨rfl, by go_grown⟩
theorem rleft_1 (mb b : Nat) (E : Es) (p q : Pt) (T : Tri3) (hg : getE E (p, q) = some T) (hk : okW (p, q)) (w : World) (Bm : Box w mb [.map (some b)] 41) (Hm : HoldsMap eW eT okW w b E) :
    Calls Tryz.prog 65 #[.pointer (some ⟨mb, 0, none⟩), .agg #[.int .i64 p.x, .int .i64 p.y], .agg #[.int .i64 q.x, .int .i64 q.y]] w fun e w' => e = .returned (.tuple #[.agg #[.int .i64 T.A.x, .int .i64 T.A.y, .int .i64 T.B.x, .int .i64 T.B.y, .int .i64 T.C.x, .int .i64 T.C.y], .bool true]) ∧ Below w.heap.size w w' := by
 go_enter Tryz.func65, Tryz.ntmps65
 go_wp2_with fail;refine zA3 fun W1 hW => ?_;obtain ⟨Bp, Bq, Br, hw⟩ := N3 hW;clear hW;have BM : Box W1 (mb) [.map (some b)] 41 := Bm.ee hw;have hl : ∀ d os, (Instr.lookup 39 (.map (some b)) (.agg #[.int .i64 p.x, .int .i64 p.y, .int .i64 q.x, .int .i64 q.y]) true).run Tryz.prog (grow (redrawn W1 d) os) = .ok (.tuple #[.agg #[.int .i64 T.A.x, .int .i64 T.A.y, .int .i64 T.B.x, .int .i64 T.B.y, .int .i64 T.C.x, .int .i64 T.C.y], .bool true]) (grow (redrawn W1 d) os) := fun d os => ((Hm.ee hw).ext (below_regrown W1 d os) rfl).look_some kvR zAt hk hg;clear hg;have g_pqrM := J4 Bp.cells Bq.cells Br.cells BM.cells;refine zA5 11 8 19 [.int .i64 T.A.x, .int .i64 T.A.y, .int .i64 T.B.x, .int .i64 T.B.y, .int .i64 T.C.x, .int .i64 T.C.y] (zs := [.int .i64 0, .int .i64 0, .int .i64 0, .int .i64 0, .int .i64 0, .int .i64 0]) (eff := eff6 (.int .i64 T.A.x) (.int .i64 T.A.y) (.int .i64 T.B.x) (.int .i64 T.B.y) (.int .i64 T.C.x) (.int .i64 T.C.y)) zAd rfl rfl rfl rfl rfl rfl rfl (by simp) (fun ρ W => by simp [execOp, go_sem]; rfl) (by kernel_rfl) (by as_aux_lemma => kernel_rfl) (C := fun w' => ∃ p : Regrown, w' = grow (redrawn W1 p.d) p.os) rgB ?_ (fun ρ W b e1 e2 hB => by obtain ⟨x, y, _, _⟩ := hB.f; simp [execOp, go_sem, e1, e2, x, y, eff6]);simp only [tK1, tK0, dP1, dP0];repeat (first | (refine zA0 (Eq.refl false) ?_; simp only [Act.put, sT2, sT1, sT0]) | (refine rWalk_step (fun K hK => ?_); go_simp; refine hK _ ?_; clear hK K))
 refine rWalk_nil ⟨rfl, ?_⟩;intro w2 bks hb h1b h2b Bs;have lps := Bp.lt;have lqs := Bq.lt;have lrs := Br.lt;have lMs := BM.lt;have hw0z := hw.size;clear g_pqrM;obtain ⟨Bp, Bq, Br, BM, hw, -⟩ := X4 Bp Bq Br BM hw hb;have fs := h1b;have hwz : w.heap.size ≤ W1.heap.size := hw0z;clear hb h1b h2b hw0z;simp only [Act.put];clear hl;obtain ⟨xp, yp, zp, vp⟩ := Bp.f;obtain ⟨xq, yq, zq, vq⟩ := Bq.f;obtain ⟨xr, yr, zr, vr⟩ := Br.f;obtain ⟨xM, yM, zM, vM⟩ := BM.f;obtain ⟨xs, ys, zs, vs⟩ := Bs.f;go_wp2_with fail;refine bodyPost_ret (v := .tuple #[.agg #[.int .i64 T.A.x, .int .i64 T.A.y, .int .i64 T.B.x, .int .i64 T.B.y, .int .i64 T.C.x, .int .i64 T.C.y], .bool true]) (by simp [results, Tryz.results65, go_sem, xr]) rfl ⟨rfl, by have hl := hw.size; go_grown⟩
theorem rleft_0 (mb b : Nat) (E : Es) (p q : Pt) (hg : getE E (p, q) = none) (hk : okW (p, q)) (w : World) (Bm : Box w mb [.map (some b)] 41) (Hm : HoldsMap eW eT okW w b E) :
    Calls Tryz.prog 65 #[.pointer (some ⟨mb, 0, none⟩), .agg #[.int .i64 p.x, .int .i64 p.y], .agg #[.int .i64 q.x, .int .i64 q.y]] w fun e w' => e = .returned (.tuple #[.agg #[.int .i64 0, .int .i64 0, .int .i64 0, .int .i64 0, .int .i64 0, .int .i64 0], .bool false]) ∧ Below w.heap.size w w' := by
 go_enter Tryz.func65, Tryz.ntmps65
 go_wp2_with fail;refine zA3 fun W1 hW => ?_;obtain ⟨Bp, Bq, Br, hw⟩ := N3 hW;clear hW;have BM : Box W1 (mb) [.map (some b)] 41 := Bm.ee hw;have hl : ∀ d os, (Instr.lookup 39 (.map (some b)) (.agg #[.int .i64 p.x, .int .i64 p.y, .int .i64 q.x, .int .i64 q.y]) true).run Tryz.prog (grow (redrawn W1 d) os) = .ok (.tuple #[.agg #[.int .i64 0, .int .i64 0, .int .i64 0, .int .i64 0, .int .i64 0, .int .i64 0], .bool false]) (grow (redrawn W1 d) os) := fun d os => ((Hm.ee hw).ext (below_regrown W1 d os) rfl).look_none kvR zAt hk hg;clear hg;have g_pqrM := J4 Bp.cells Bq.cells Br.cells BM.cells;refine zA5 11 8 19 [.int .i64 0, .int .i64 0, .int .i64 0, .int .i64 0, .int .i64 0, .int .i64 0] (zs := [.int .i64 0, .int .i64 0, .int .i64 0, .int .i64 0, .int .i64 0, .int .i64 0]) (eff := eff6 (.int .i64 0) (.int .i64 0) (.int .i64 0) (.int .i64 0) (.int .i64 0) (.int .i64 0)) zAd rfl rfl rfl rfl rfl rfl rfl (by simp) (fun ρ W => by simp [execOp, go_sem]; rfl) (by kernel_rfl) (by as_aux_lemma => kernel_rfl) (C := fun w' => ∃ p : Regrown, w' = grow (redrawn W1 p.d) p.os) rgB ?_ (fun ρ W b e1 e2 hB => by obtain ⟨x, y, _, _⟩ := hB.f; simp [execOp, go_sem, e1, e2, x, y, eff6]);simp only [tK1, tK0, dP1, dP0];repeat (first | (refine zA0 (Eq.refl false) ?_; simp only [Act.put, sT2, sT1, sT0]) | (refine rWalk_step (fun K hK => ?_); go_simp; refine hK _ ?_; clear hK K))
 refine rWalk_nil ⟨rfl, ?_⟩;intro w2 bks hb h1b h2b Bs;have lps := Bp.lt;have lqs := Bq.lt;have lrs := Br.lt;have lMs := BM.lt;have hw0z := hw.size;clear g_pqrM;obtain ⟨Bp, Bq, Br, BM, hw, -⟩ := X4 Bp Bq Br BM hw hb;have fs := h1b;have hwz : w.heap.size ≤ W1.heap.size := hw0z;clear hb h1b h2b hw0z;simp only [Act.put];clear hl;obtain ⟨xp, yp, zp, vp⟩ := Bp.f;obtain ⟨xq, yq, zq, vq⟩ := Bq.f;obtain ⟨xr, yr, zr, vr⟩ := Br.f;obtain ⟨xM, yM, zM, vM⟩ := BM.f;obtain ⟨xs, ys, zs, vs⟩ := Bs.f;go_wp2_with fail;refine bodyPost_ret (v := .tuple #[.agg #[.int .i64 0, .int .i64 0, .int .i64 0, .int .i64 0, .int .i64 0, .int .i64 0], .bool false]) (by simp [results, Tryz.results65, go_sem, xr]) rfl ⟨rfl, by have hl := hw.size; go_grown⟩
theorem zAa (mb b : Nat) (E : Es) (p q : Pt) (hk : okW (p, q)) (w : World) (Bm : Box w mb [.map (some b)] 41) (Hm : HoldsMap eW eT okW w b E) :
    Calls Tryz.prog 65 #[.pointer (some ⟨mb, 0, none⟩), .agg #[.int .i64 p.x, .int .i64 p.y], .agg #[.int .i64 q.x, .int .i64 q.y]] w fun e w' => e = .returned (.tuple #[eT (lftE E p q).1, .bool (lftE E p q).2]) ∧ Below w.heap.size w w' := by
 cases h : getE E (p, q) with
 | none => rw [zB3 h]; exact rleft_0 mb b E p q h hk w Bm Hm
 | some t => rw [zAi h]; exact rleft_1 mb b E p q t h hk w Bm Hm
theorem toExtD {P : Program} {f : FuncId} {args : Array Value} {v : Value} {W : World} (c : ∀ d os, Calls P f args (grow (redrawn W d) os) fun e w' => e = .returned v ∧ Below (grow (redrawn W d) os).heap.size (grow (redrawn W d) os) w') :
    ∀ d os, Calls P f args (grow (redrawn W d) os) fun e w' => e = .returned v ∧ Ext (grow (redrawn W d) os) w' := c
end Go.Proofs.YtmobnmjjmafibaaGreat
namespace Go.Proofs.YtmobnmjjmafibaaGreat.Dr
open Go.RowKit Go.Sort
section
variable {P : Program} {ops : Array Oper} {md : Region.Mode} {C : World → Prop}
def Ext (w w' : World) : Prop := Below w.heap.size w w' ∧ w.drawn ≤ w'.drawn
def rUpon (P : Program) (w : World) (v : Value) : Result Next → Prop
 | .ok (.value u) w' => w' = w ∧ u = v
 | .ok .skip w' => w' = w ∧ v = undef
 | .ok (.enter f args) w' => w' = w ∧ Calls P f args w (fun e w'' => e = .returned v ∧ Ext w w'')
 | _ => False
def rAt (P : Program) (o : Oper) (a : Act) (w : World) (v : Value) : Prop := rUpon P w v ((execOp a.eval o).run P w)
def rOper (P : Program) (o : Oper) (a : Act) (C : World → Prop) (next : Act → Prop) : Prop := ∃ v, (∀ w, C w → rAt P o a w v) ∧ next (a.put o.dst v)
def rWalk (P : Program) (ops : Array Oper) (C : World → Prop) (Q : Act → Prop) : List Oper → Act → Prop
 | [], a => Q a
 | o :: rest, a => if Region.wanted o (yielded ops a.tmps) then rOper P o a C (rWalk P ops C Q rest) else rWalk P ops C Q rest (a.put o.dst undef)
theorem rWalk_nil {Q : Act → Prop} {a : Act} (h : Q a) : rWalk P ops C Q [] a := h
theorem rWalk_step {Q : Act → Prop} {a : Act} {o : Oper} {rest : List Oper}
    (h : ∀ K : Act → Prop, (∀ a, rWalk P ops C Q rest a → K a) → if Region.wanted o (yielded ops a.tmps) then rOper P o a C K else K (a.put o.dst undef)) : rWalk P ops C Q (o :: rest) a :=
 h _ (fun _ h => h)
def rYields (P : Program) (ops : Array Oper) (C : World → Prop) (o : Oper) (v : Value) (a : Act) : Prop :=
 (Region.wanted o (yielded ops a.tmps) = true ∧ ∀ w, C w → rAt P o a w v) ∨ (Region.wanted o (yielded ops a.tmps) = false ∧ v = undef)
theorem rYields.same {o : Oper} {v : Value} {a a' : Act} (hy : rYields P ops C o v a) (he : execOp a'.eval o = execOp a.eval o)
    (hw : Region.wanted o (yielded ops a'.tmps) = Region.wanted o (yielded ops a.tmps)) : rYields P ops C o v a' := by
 unfold rYields rAt at *;rw [he, hw];exact hy
theorem rYields.of_walk {o : Oper} {rest : List Oper} {Q : Act → Prop} {a : Act} (h : rWalk P ops C Q (o :: rest) a) : ∃ v, rYields P ops C o v a ∧ rWalk P ops C Q rest (a.put o.dst v) := by
 simp only [rWalk] at h;cases hw : Region.wanted o (yielded ops a.tmps) with
 | true =>
  rw [hw, if_pos rfl] at h;obtain ⟨v, h1, h2⟩ := h;exact ⟨v, .inl ⟨hw, h1⟩, h2⟩
 | false =>
  rw [hw, if_neg (by simp)] at h;exact ⟨undef, .inr ⟨hw, rfl⟩, h⟩
def rAny (P : Program) (md : Region.Mode) (ops : Array Oper) (C : World → Prop) (n : Nat) (L : Array Bool → Act → Prop) : Nat → Array Bool → Act → Prop
 | 0, listed, a => L listed a
 | f + 1, listed, a => Region.ready md ops listed ≠ [] ∧
  ∀ i ∈ Region.ready md ops listed, i < n ∧ ∃ o v, ops[i]? = some o ∧ rYields P ops C o v a ∧ rAny P md ops C n L f (listed.setIfInBounds i true) (a.put o.dst v)
def TailWaits (md : Region.Mode) (ops : Array Oper) (n : Nat) (listed : Array Bool) : Prop :=
 ∀ i, i < n → listed.getD i true = false → ∀ t, n ≤ t → t ∉ Region.ready md ops listed
theorem zEq {n i : Nat} {oi : Oper} {v : Value} {L : Array Bool → Act → Prop} (hi : ops[i]? = some oi) (hsel : ∀ (j : Nat) (o : Oper) cs b, ops[j]? = some o → o.op ≠ .select cs b)
    (hin : i < n) (Inv : Array Bool → Prop) (hinv : ∀ listed j, Inv listed → j ∈ Region.ready md ops listed → j < n → Inv (listed.setIfInBounds j true))
    (htail : ∀ listed, Inv listed → TailWaits md ops n listed)
    (hdone : ∀ listed a, L listed a → ∀ j ∈ Region.ready md ops listed, n ≤ j) :
    ∀ (f : Nat) (listed : Array Bool) (a : Act), Inv listed →
     (∀ j oj, ops[j]? = some oj → j ≠ i → listed.getD j true = false → (∀ e ∈ oj.after, Region.binds md e = true → e.on ≠ i) → oi.apart ops oj = true) →
     i ∈ Region.ready md ops listed → rYields P ops C oi v a →
     rAny P md ops C n L f (listed.setIfInBounds i true) (a.put oi.dst v) → rAny P md ops C n L (f + 1) listed a := by
 intro f;induction f with
 | zero =>
  intro listed a inv _ hr hy H;have hun := (mem_ready.1 hr).1;refine ⟨fun h => (by rw [h] at hr; cases hr), fun j hj => ?_⟩;have hjn : j < n := by
   rcases Nat.lt_or_ge j n with h | h
   ·exact h
   ·exact absurd hj (htail _ inv i hin hun j h)
  by_cases hji : j = i
  ·subst hji; exact ⟨hjn, oi, v, hi, hy, H⟩
  ·have := hdone _ _ H j (ready_mono hj hji);omega
 | succ f ih =>
  intro listed a inv hfree hr hy H;have hun := (mem_ready.1 hr).1;refine ⟨fun h => (by rw [h] at hr; cases hr), fun j hj => ?_⟩;have hjn : j < n := by
   rcases Nat.lt_or_ge j n with h | h
   ·exact h
   ·exact absurd hj (htail _ inv i hin hun j h)
  by_cases hji : j = i
  ·subst hji; exact ⟨hjn, oi, v, hi, hy, H⟩
  ·obtain ⟨_, oj, u, hoj, hyj, hK⟩ := H.2 j (ready_mono hj hji);obtain ⟨hjun, oj', hoj', hall⟩ := mem_ready.1 hj;have hoo : oj' = oj := Option.some.inj (hoj'.symm.trans hoj);subst hoo;have hnot : ∀ e ∈ oj'.after, Region.binds md e = true → e.on ≠ i := fun e he hb heq => by
    have h1 := hall e he hb;rw [heq, getD_both hun] at h1;cases h1
   obtain ⟨h1, h2, h3⟩ := Oper.apart_spec (hfree j oj' hoj hji hjun hnot);have hyj' : rYields P ops C oj' u a := hyj.same (execOp_put oj' (fun cs b => hsel j oj' cs b hoj) a oi.dst v h1).symm (wanted_put oj' a oi.dst v h1).symm;have hyi' : rYields P ops C oi v (a.put oj'.dst u) := hy.same (execOp_put oi (fun cs b => hsel i oi cs b hi) a oj'.dst u h3) (wanted_put oi a oj'.dst u h3);refine ⟨hjn, oj', u, hoj, hyj', ?_⟩;refine ih (listed.setIfInBounds j true) _ (hinv _ _ inv hj hjn) (fun k ok hk hki hun' hno => ?_) (ready_mono hr (Ne.symm hji)) hyi' ?_
   ·refine hfree k ok hk hki ?_ hno;by_cases hjk : j = k
    ·subst hjk; exact hjun
    ·rw [getD_set_ne true hjk] at hun'; exact hun'
   ·rw [Array.setIfInBounds_comm _ _ hji, ← Act.put_comm a v u h2];exact hK
def orderB (md : Region.Mode) (ops : Array Oper) (n g : Nat) : List Nat → Array Bool → Bool
 | [], listed => Region.seqB md ops g n listed
 | k :: is, listed => decide (k < n) && (Region.ready md ops listed).contains k && Region.free md ops listed k && orderB md ops n g is (listed.setIfInBounds k true)
theorem zC1 {n g : Nat} {Lq : Act → Prop} (hsel : Region.noSelect ops = true) (Inv : Array Bool → Prop)
    (hinv : ∀ listed j, Inv listed → j ∈ Region.ready md ops listed → j < n → Inv (listed.setIfInBounds j true)) (htail : ∀ listed, Inv listed → TailWaits md ops n listed) :
    ∀ (is : List Nat) (l : List Oper) (listed : Array Bool) (a : Act), is.map (fun i => ops[i]?) = l.map some → Inv listed → orderB md ops n g is listed = true → rWalk P ops C Lq l a →
     rAny P md ops C n (fun listed' a' => Region.seqB md ops g n listed' = true ∧ Lq a') is.length listed a
 | [], [], listed, a, _, _, hB, h => ⟨hB, h⟩
 | [], _ :: _, _, _, hl, _, _, _ => by cases hl
 | _ :: _, [], _, _, hl, _, _, _ => by cases hl
 | k :: is, o :: l, listed, a, hl, inv, hB, h => by
  simp only [List.map_cons, List.cons.injEq] at hl;obtain ⟨h0, hl⟩ := hl;simp only [orderB, Bool.and_eq_true, decide_eq_true_eq] at hB;obtain ⟨⟨⟨hkn, hr⟩, hf⟩, hB'⟩ := hB;have hr' : k ∈ Region.ready md ops listed := by simpa using hr
  obtain ⟨v, hy, hK⟩ := rYields.of_walk h;exact zEq h0 (Region.noSelect_spec hsel) hkn Inv hinv htail (fun listed' a' hL => seqB_ready hL.1) is.length listed a inv (Region.free_spec h0 hf) hr' hy
   (zC1 hsel Inv hinv htail is l _ _ hl (hinv _ _ inv hr' hkn) hB' hK)
theorem Ext.trans {a b c : World} (h : Ext a b) (k : Ext b c) : Ext a c := ⟨Below.trans h.1 (Below.mono k.1 h.1.size), Nat.le_trans h.2 k.2⟩
theorem zAy {i : Nat} {o : Oper} {v : Value} {a : Act} {K : Act → World → Prop} {Q : Exit → Act → World → Prop} {w : World} (hi : ops[i]? = some o) (hC : C w) (hy : rYields P ops C o v a)
    (h : ∀ w', Ext w w' → K (a.put o.dst v) w') : wpOp P ops Q i K a w := by
 have hrefl : Ext w w := ⟨Below.refl _ _, Nat.le_refl _⟩;unfold wpOp;simp only [hi];rcases hy with ⟨hw, hv⟩ | ⟨hw, rfl⟩
 ·rw [if_pos hw];refine .inl ?_;have h3 := hv w hC;unfold rAt at h3;unfold Oper.wp;generalize (execOp a.eval o).run P w = r at *
  cases r with
  | ok n w' =>
   cases n <;> simp only [rUpon] at h3 <;> simp only [Oper.upon]
   case value u => obtain ⟨e1, e2⟩ := h3; rw [e1, e2]; exact h _ hrefl
   case skip => obtain ⟨e1, e2⟩ := h3; rw [e1, ← e2]; exact h _ hrefl
   case enter f args =>
    obtain ⟨e1, hc⟩ := h3;rw [e1];exact hc.mono fun e w'' ⟨he, hw''⟩ => by subst he; exact h _ hw''
  | halt x w' => simp only [rUpon] at h3
 ·rw [hw, if_neg (by simp)];exact h _ hrefl
theorem zB8 {n g : Nat} {Q : Exit → Act → World → Prop} {Lq : Act → Prop} {l : List Oper} {dst : Option Tmp} {u : Value} {D : World → Prop} (hsel : Region.noSelect ops = true)
    (hg : l.length = g) (hl : ∀ j, l[j]? = ops[n + j]?) (hD : ∀ w, D w → C w) (hDe : ∀ w w', D w → Ext w w' → D w')
    (J : Nat → Prop) (hap : ∀ i o, i < n → ¬ J i → ops[i]? = some o → (∀ d, dst = some d → d ∉ o.looksAt ops) ∧ (∀ d, dst = some d → o.dst ≠ some d))
    (hQ : ∀ a w, D w → Lq a → wpList P ops Q l (a.put dst u) w) :
    ∀ (f : Nat) (listed : Array Bool) (a : Act) (w : World), D w → (∀ i, J i → listed.getD i true = true) →
     rAny P md ops C n (fun listed' a' => Region.seqB md ops g n listed' = true ∧ Lq a') f listed a → wpAny P md ops Q (f + g) listed (a.put dst u) w
 | 0, listed, a, w, hw, _, h => by
  rw [Nat.zero_add];subst hg;exact wpAny_of_seq l n listed _ w hl h.1 (hQ a w hw h.2)
 | f + 1, listed, a, w, hw, hJ, h => by
  rw [show f + 1 + g = (f + g) + 1 by omega];refine ⟨fun h0 => absurd h0 h.1, fun i hi => ?_⟩;obtain ⟨hin, o, v, ho, hy, hK⟩ := h.2 i hi;have hiun := (mem_ready.1 hi).1;have hnJ : ¬ J i := fun hj => by rw [hJ i hj] at hiun; cases hiun
  obtain ⟨h1, h2⟩ := hap i o hin hnJ ho;have hy' : rYields P ops C o v (a.put dst u) := hy.same (execOp_put o (fun cs b => Region.noSelect_spec hsel i o cs b ho) a dst u h1) (wanted_put o a dst u h1);refine zAy ho (hD w hw) hy' fun w' hw' => ?_;rw [Act.put_comm a u v h2];refine zB8 hsel hg hl hD hDe J hap hQ f _ _ w' (hDe _ _ hw hw') (fun k hk => ?_) hK;by_cases hik : i = k
  ·subst hik; exact absurd hk hnJ
  ·rw [getD_set_ne true hik]; exact hJ k hk
def plainB (md : Region.Mode) (ops : Array Oper) (n : Nat) : Bool :=
 Region.noSelect ops && decide (n < ops.size) && Region.sinkB md ops n && Region.chainB md ops n && orderB md ops n (ops.size - n) (List.range n) (Array.replicate ops.size false)
theorem headInv0 {n : Nat} : HeadInv md ops n (Array.replicate ops.size false) :=
 ⟨by simp, fun j oj _ hl => (by rw [getD_replicate_false] at hl; cases hl), fun t _ ht => getD_in (by simpa using ht) (getD_replicate_false _ _)⟩
theorem wp_region_tail {id : Nat} {Q : Exit → Act → World → Prop} {a : Act} {w : World} {l : List Oper} (n : Nat) (hm : P.follows .mixedOrders = true) (hB : plainB .any l.toArray n = true)
    (hC : ∀ w', Below w.heap.size w w' → C w')
    (h : rWalk P l.toArray C (fun a' => ∀ w', Ext w w' → wpList P l.toArray Q (l.drop n) a' w') (l.take n) a) : (Code.region id l.toArray true).wp P Q a w := by
 simp only [plainB, Bool.and_eq_true, decide_eq_true_eq] at hB;obtain ⟨⟨⟨⟨hsel, hn⟩, hs⟩, hc⟩, ho⟩ := hB;have hn' : n < l.length := by simpa using hn
 have hmap : (List.range n).map (fun i => l.toArray[i]?) = (l.take n).map some := by
  apply List.ext_getElem?;intro j;simp only [List.getElem?_map, List.getElem?_take];by_cases hj : j < n
  ·simp [hj, show j < l.length by omega]
  ·simp [hj]
 have H := zC1 (md := .any) (g := l.toArray.size - n) hsel (HeadInv .any l.toArray n) (fun listed j inv hj hjn => inv.set hj hjn) (fun listed inv i hi hun => tail_waits hs hc hn inv _ i rfl hi hun)
  (List.range n) (l.take n) _ a hmap headInv0 ho h
 refine wp_region_any hm ?_;have := zB8 (md := .any) (Q := Q) (l := l.drop n) (dst := none) (u := undef) (D := fun w' => Ext w w') hsel (by simp) (fun j => by simp [List.getElem?_drop])
  (fun w' h => hC w' h.1) (fun a b ha hb => Ext.trans (a := w) ha hb) (fun _ => False) (fun i o _ _ _ => ⟨fun d hd => (by cases hd), fun d hd => (by cases hd)⟩)
  (fun a' w' hw' hl => hl w' hw') _ _ _ { w with drawn := w.drawn + 1 } ⟨⟨rfl, rfl, rfl, Nat.le_refl _, fun _ _ => rfl⟩, by simp⟩ (fun i hi => hi.elim) H
 rw [List.length_range, show n + (l.toArray.size - n) = l.toArray.size by omega] at this;exact this
end
theorem toExt {P : Program} {f : FuncId} {args : Array Value} {v : Value} (c : ∀ w : World, Calls P f args w fun e w' => e = .returned v ∧ Ext w w') : ∀ w : World, Calls P f args w fun e w' => e = .returned v ∧ Ext w w' := c
theorem Ext.grown {w w' : World} (h : Ext w w') : ∃ q os, w' = grow (w.drewN q) os := by
 obtain ⟨p, hp⟩ := regrown_of_below h.1;refine ⟨p.d - w.drawn, p.os, ?_⟩;have h2 := h.2;have e : w'.drawn = p.d := by rw [hp]; rfl
 rw [e] at h2;rw [hp];have : redrawn w p.d = w.drewN (p.d - w.drawn) := by unfold redrawn World.drewN; congr 1; omega
 rw [this]
end Go.Proofs.YtmobnmjjmafibaaGreat.Dr
namespace Go.Proofs.YtmobnmjjmafibaaGreat
open Go.RowKit Go.Sort
attribute [local go_sem] Dr.rOper Dr.rAt Dr.rUpon cell_set sg_i64 sg_u64 alloc_cell alloc_frozen
attribute [local go_sem 10000] pt_eql pt_neq tri_eql
attribute [local irreducible] Dr.rWalk
theorem zK2 (p q : Pt) (w : World) :
    Calls Tryz.prog 81 #[.agg #[.int .i64 p.x, .int .i64 p.y], .agg #[.int .i64 q.x, .int .i64 q.y]] w fun e w' => e = .returned (.int .i64 (cmpP p q)) ∧ Dr.Ext w w' := by
 by_cases h : p.x = q.x
 ·have e1 : (p.x != q.x) = false := by simp [h]
  have e2 : cmpP p q = cmpN p.y q.y := by unfold cmpP; rw [if_pos h]
  rw [e2];clear e2 h
  go_enter Tryz.func81, Tryz.ntmps81
  go_wp2_with (go_at_call 124; refine (zHg _ _ _).mono ?_; rintro e w' ⟨rfl, rfl⟩)
  go_returns
  exact ⟨rfl, by go_grown, Nat.le_refl _⟩
 ·have e1 : (p.x != q.x) = true := by simp [h]
  have e2 : cmpP p q = cmpN p.x q.x := by unfold cmpP; rw [if_neg h]
  rw [e2];clear e2 h
  go_enter Tryz.func81, Tryz.ntmps81
  go_wp2_with (go_at_call 124; refine (zHg _ _ _).mono ?_; rintro e w' ⟨rfl, rfl⟩)
  go_returns
  exact ⟨rfl, by go_grown, Nat.le_refl _⟩
theorem dor_0 (x y z : Int) (h0 : (x == 0) = false) (w : World) (bk : Nat) (hB : Box w bk [.int .i64 x, .int .i64 y, .int .i64 z] 3) :
    Calls Tryz.prog 127 #[.slice (some ⟨bk, 0, none⟩) 3 3] w fun e w' => e = .returned (.int .i64 x) ∧ Dr.Ext w w' := by
 have Fs := hB.f
 go_enter Tryz.func127, Tryz.ntmps127
 go_wp2_with fail;refine wp_loop_rounds 5 ?_;try rw [rounds_succ]
 go_wp2_with fail
 go_ret
 exact ⟨rfl, by go_grown, Nat.le_refl _⟩
theorem dor_1 (x y z : Int) (h0 : (x == 0) = true) (h1 : (y == 0) = false) (w : World) (bk : Nat) (hB : Box w bk [.int .i64 x, .int .i64 y, .int .i64 z] 3) :
    Calls Tryz.prog 127 #[.slice (some ⟨bk, 0, none⟩) 3 3] w fun e w' => e = .returned (.int .i64 y) ∧ Dr.Ext w w' := by
 have Fs := hB.f
 go_enter Tryz.func127, Tryz.ntmps127
 go_wp2_with fail;refine wp_loop_rounds 5 ?_;try rw [rounds_succ]
 go_wp2_with fail;try rw [rounds_succ]
 go_wp2_with fail
 go_ret
 exact ⟨rfl, by go_grown, Nat.le_refl _⟩
theorem dor_2 (x y z : Int) (h0 : (x == 0) = true) (h1 : (y == 0) = true) (h2 : (z == 0) = false) (w : World) (bk : Nat) (hB : Box w bk [.int .i64 x, .int .i64 y, .int .i64 z] 3) :
    Calls Tryz.prog 127 #[.slice (some ⟨bk, 0, none⟩) 3 3] w fun e w' => e = .returned (.int .i64 z) ∧ Dr.Ext w w' := by
 have Fs := hB.f
 go_enter Tryz.func127, Tryz.ntmps127
 go_wp2_with fail;refine wp_loop_rounds 5 ?_;try rw [rounds_succ]
 go_wp2_with fail;try rw [rounds_succ]
 go_wp2_with fail;try rw [rounds_succ]
 go_wp2_with fail
 go_ret
 exact ⟨rfl, by go_grown, Nat.le_refl _⟩
theorem dor_3 (x y z : Int) (h0 : (x == 0) = true) (h1 : (y == 0) = true) (h2 : (z == 0) = true) (w : World) (bk : Nat) (hB : Box w bk [.int .i64 x, .int .i64 y, .int .i64 z] 3) :
    Calls Tryz.prog 127 #[.slice (some ⟨bk, 0, none⟩) 3 3] w fun e w' => e = .returned (.int .i64 0) ∧ Dr.Ext w w' := by
 have Fs := hB.f
 go_enter Tryz.func127, Tryz.ntmps127
 go_wp2_with fail;refine wp_loop_rounds 5 ?_;try rw [rounds_succ]
 go_wp2_with fail;try rw [rounds_succ]
 go_wp2_with fail;try rw [rounds_succ]
 go_wp2_with fail;try rw [rounds_succ]
 go_wp2_with fail
 go_ret
 exact ⟨rfl, by go_grown, Nat.le_refl _⟩
theorem dor_any (x y z : Int) (w : World) (bk : Nat) (hB : Box w bk [.int .i64 x, .int .i64 y, .int .i64 z] 3) :
    Calls Tryz.prog 127 #[.slice (some ⟨bk, 0, none⟩) 3 3] w fun e w' => e = .returned (.int .i64 (or3 x y z)) ∧ Dr.Ext w w' := by
 cases h0 : (x == 0) with
 | false => rw [show or3 x y z = x by simp at h0; simp [or3, h0]]; exact dor_0 x y z h0 w bk hB
 | true => cases h1 : (y == 0) with
  | false => rw [show or3 x y z = y by simp at h0 h1; simp [or3, h0, h1]]; exact dor_1 x y z h0 h1 w bk hB
  | true => cases h2 : (z == 0) with
   | false => rw [show or3 x y z = z by simp at h0 h1; simp [or3, h0, h1]]; exact dor_2 x y z h0 h1 h2 w bk hB
   | true => rw [show or3 x y z = 0 by simp at h0 h1 h2; simp [or3, h0, h1, h2]]; exact dor_3 x y z h0 h1 h2 w bk hB
theorem Dr_skip {P : Program} {ops : Array Oper} {C : World → Prop} {Q : Act → Prop} {a : Act} {o : Oper} {rest : List Oper} (hg : Region.wanted o (yielded ops a.tmps) = false) (h : Dr.rWalk P ops C Q rest (a.put o.dst undef)) : Dr.rWalk P ops C Q (o :: rest) a := by
 simp only [Dr.rWalk]; rw [hg, if_neg (by simp)]; exact h
theorem dcmpT_any (S T : Tri3) (w : World) :
    Calls Tryz.prog 93 #[.agg #[.int .i64 S.A.x, .int .i64 S.A.y, .int .i64 S.B.x, .int .i64 S.B.y, .int .i64 S.C.x, .int .i64 S.C.y], .agg #[.int .i64 T.A.x, .int .i64 T.A.y, .int .i64 T.B.x, .int .i64 T.B.y, .int .i64 T.C.x, .int .i64 T.C.y]] w fun e w' => e = .returned (.int .i64 (cmpT S T)) ∧ Dr.Ext w w' := by
 have d1 := zK2 S.A T.A;have d2 := zK2 S.B T.B;have d3 := zK2 S.C T.C;rw [show cmpT S T = or3 (cmpP S.A T.A) (cmpP S.B T.B) (cmpP S.C T.C) by rfl];generalize cmpP S.A T.A = m at *
 generalize cmpP S.B T.B = n at *
 generalize cmpP S.C T.C = o at *
 go_enter Tryz.func93, Tryz.ntmps93
 go_wp2_with fail;refine zA3 fun W1 hW => ?_;have Bs : Box W1 (w.heap.size) [.int .i64 S.A.x, .int .i64 S.A.y, .int .i64 S.B.x, .int .i64 S.B.y, .int .i64 S.C.x, .int .i64 S.C.y] 38 := by rw [hW]; exact (Box.new rfl).old _
 have Bt : Box W1 (w.heap.size + 1) [.int .i64 T.A.x, .int .i64 T.A.y, .int .i64 T.B.x, .int .i64 T.B.y, .int .i64 T.C.x, .int .i64 T.C.y] 38 := by rw [hW]; exact Box.new (by simp)
 have hw : Below w.heap.size w W1 := by rw [hW]; go_grown
 have hdr : w.drawn ≤ W1.drawn := by rw [hW]; exact Nat.le_refl _
 clear hW;have g_st := J2 Bs.cells Bt.cells;refine Dr.wp_region_tail 15 (by kernel_rfl) (by kernel_rfl) (C := fun w' => ∃ p : Regrown, w' = grow (redrawn W1 p.d) p.os) rgB ?_;simp only [tK1, tK0, dP1, dP0];repeat (first | (refine Dr_skip (Eq.refl false) ?_; simp only [Act.put, sT2, sT1, sT0]) | (refine Dr.rWalk_step (fun K hK => ?_); go_simp; first | (refine hK _ ?_; clear hK K) | (apply Exists.intro; refine ⟨fun _ => ?_, hK _ ?_⟩; (first | with_reducible exact Dr.toExt d1 _ | with_reducible exact Dr.toExt d2 _ | with_reducible exact Dr.toExt d3 _); clear hK K)))
 refine Dr.rWalk_nil ?_;intro w2 hb0;have hb := hb0.1;replace hdr := Nat.le_trans hdr hb0.2;clear hb0;clear g_st;obtain ⟨Bs, Bt, hw, -⟩ := X2 Bs Bt hw hb;have Fs := Bs.f;have Ft := Bt.f;go_wp2_with fail;refine zA1 fun W3 hW => ?_;obtain ⟨bkv, hbv⟩ : ∃ b, w2.heap.size = b := ⟨_, rfl⟩;rw [hbv];have lsv := Bs.lt;rw [hbv] at lsv;have ltv := Bt.lt;rw [hbv] at ltv;have fv := hw.size;rw [hbv] at fv;have Bv : Box W3 bkv [.int .i64 m, .int .i64 n, .int .i64 o] 3 := by rw [hW]; exact Box.new hbv.symm
 replace Bs : Box W3 (w.heap.size) [.int .i64 S.A.x, .int .i64 S.A.y, .int .i64 S.B.x, .int .i64 S.B.y, .int .i64 S.C.x, .int .i64 S.C.y] 38 := by rw [hW]; exact Bs.old _
 replace Bt : Box W3 (w.heap.size + 1) [.int .i64 T.A.x, .int .i64 T.A.y, .int .i64 T.B.x, .int .i64 T.B.y, .int .i64 T.C.x, .int .i64 T.C.y] 38 := by rw [hW]; exact Bt.old _
 replace hw : Below w.heap.size w W3 := by have hl := hw.size; rw [hW]; go_grown
 replace hdr : w.drawn ≤ W3.drawn := by rw [hW]; exact hdr
 clear hW hbv;refine (dor_any m n o _ bkv Bv).mono ?_;rintro e w4 ⟨rfl, hb0⟩;have hb := hb0.1;replace hdr := Nat.le_trans hdr hb0.2;clear hb0;clear Fs Ft;obtain ⟨Bs, Bt, Bv, hw, -⟩ := X3 Bs Bt Bv hw hb;clear hb;have Fs := Bs.f;have Ft := Bt.f;have Fv := Bv.f;go_wp2
 go_ret
 exact ⟨rfl, by have hl := hw.size; go_grown, hdr⟩
end Go.Proofs.YtmobnmjjmafibaaGreat
namespace Go.Proofs.YtmobnmjjmafibaaGreat
open Go.RowKit Go.Sort
attribute [local go_sem] rOper rAt rUpon cell_set sg_i64 sg_u64 alloc_cell alloc_frozen
attribute [local go_sem 10000] pt_eql pt_neq
attribute [local irreducible] rWalk
theorem zKq {x y z : Pt} (hx : vld x = true) (hy : vld y = true) (hz : vld z = true) (n1 : key x ≠ key y) (n2 : key x ≠ key z) (n3 : key y ≠ key z) : mkT y z x = mkT x y z := by
 rcases zDo hx hy hz n1 n2 n3 with ⟨u1, u2, e⟩ | ⟨u1, u2, e⟩ | ⟨u1, u2, e⟩ <;> rcases zDo hy hz hx n3 n1.symm n2.symm with ⟨v1, v2, f⟩ | ⟨v1, v2, f⟩ | ⟨v1, v2, f⟩ <;> first | (exfalso; omega) | rw [e, f]
theorem zKp {a b c : Pt} (h : ori a b c = 0) : mk a b c = ⟨⟨0, 0⟩, ⟨0, 0⟩, ⟨0, 0⟩⟩ := by unfold mk; rw [if_pos h]
theorem zJm {a b c : Pt} (h0 : ¬ ori a b c = 0) : vld a = true ∧ vld b = true ∧ vld c = true ∧ key a ≠ key b ∧ key a ≠ key c ∧ key b ≠ key c := by
 obtain ⟨va, vb, vc⟩ := zCq h0;obtain ⟨d1, d2, d3⟩ := zBd h0;exact ⟨va, vb, vc, fun h => d1 (zBx va vb h).symm, fun h => d2 (zBx va vc h).symm, fun h => d3 (zBx vb vc h).symm⟩
theorem mk_cyc (a b c : Pt) : mk b c a = mk a b c := by
 by_cases h0 : ori a b c = 0
 ·rw [zKp h0, zKp (by rw [zBs]; exact h0)]
 ·obtain ⟨va, vb, vc, n1, n2, n3⟩ := zJm h0;unfold mk;rw [zBs, if_neg h0, if_neg h0, zKq va vb vc n1 n2 n3, zKq vb va vc n1.symm n3 n2]
end Go.Proofs.YtmobnmjjmafibaaGreat
namespace Go.Proofs.YtmobnmjjmafibaaGreat
open Go.RowKit
theorem mk_ok {a b c : Pt} (h0 : ¬ ori a b c = 0) : valT (mk a b c) = true ∧
    (mk a b c = ⟨a, b, c⟩ ∨ mk a b c = ⟨b, c, a⟩ ∨ mk a b c = ⟨c, a, b⟩ ∨ mk a b c = ⟨a, c, b⟩ ∨ mk a b c = ⟨c, b, a⟩ ∨ mk a b c = ⟨b, a, c⟩) := by
 obtain ⟨va, vb, vc, n1, n2, n3⟩ := zJm h0;have hb := zB4 a b c;rw [zKd]; unfold valS lds;by_cases h1 : ori a b c = 1
 ·have e0 : mk a b c = mkT a b c := by unfold mk; rw [if_neg h0, if_pos h1]
  rw [e0];rcases zDo va vb vc n1 n2 n3 with ⟨x1, x2, e⟩ | ⟨x1, x2, e⟩ | ⟨x1, x2, e⟩ <;> rw [e] <;> simp only
  ·rw [zC7 va vb, zC7 va vc]; refine ⟨?_, by simp⟩; simp only [Bool.and_eq_true, decide_eq_true_eq]; omega
  ·rw [zBs, zC7 vb vc, zC7 vb va]; refine ⟨?_, by simp⟩; simp only [Bool.and_eq_true, decide_eq_true_eq]; omega
  ·rw [zBs, zBs, zC7 vc va, zC7 vc vb]; refine ⟨?_, by simp⟩; simp only [Bool.and_eq_true, decide_eq_true_eq]; omega
 ·have e0 : mk a b c = mkT a c b := by unfold mk; rw [if_neg h0, if_neg h1]
  have h2 : ori a c b = 1 := by rw [zGc]; omega
  rw [e0];rcases zDo va vc vb n2 n1 n3.symm with ⟨x1, x2, e⟩ | ⟨x1, x2, e⟩ | ⟨x1, x2, e⟩ <;> rw [e] <;> simp only
  ·rw [zC7 va vb, zC7 va vc]; refine ⟨?_, by simp⟩; simp only [Bool.and_eq_true, decide_eq_true_eq]; omega
  ·rw [zBs, zC7 vc vb, zC7 vc va]; refine ⟨?_, by simp⟩; simp only [Bool.and_eq_true, decide_eq_true_eq]; omega
  ·rw [zBs, zBs, zC7 vb va, zC7 vb vc]; refine ⟨?_, by simp⟩; simp only [Bool.and_eq_true, decide_eq_true_eq]; omega
theorem zDk {T : Tri3} (h : valT T = true) : vld T.A = true ∧ vld T.B = true ∧ vld T.C = true ∧ 0 < det T.A T.B T.C := by
 obtain ⟨va, vb, vc⟩ := zJ8 h;rw [zKd] at h;unfold valS at h;simp only [Bool.and_eq_true, decide_eq_true_eq] at h;have h1 := h.1;rw [ori_v va vb vc] at h1;have := zAj (det T.A T.B T.C);exact ⟨va, vb, vc, by omega⟩
theorem zC5 (a b c p : Pt) : det a b p + det b c p + det c a p = det a b c := by unfold det; grind
theorem corner0 {a b c : Pt} (p : Pt) (hD : 0 < det a b c) : p = a ↔ det a b p = 0 ∧ det c a p = 0 := by
 constructor
 ·intro h; subst h; constructor <;> (unfold det; grind)
 ·intro ⟨h1, h2⟩;have e1 : det a b c * (p.x - a.x) = det c a p * (b.x - a.x) + det a b p * (c.x - a.x) := by unfold det; grind
  have e2 : det a b c * (p.y - a.y) = det c a p * (b.y - a.y) + det a b p * (c.y - a.y) := by unfold det; grind
  rw [h1, h2] at e1 e2;simp only [Int.zero_mul, Int.add_zero] at e1 e2;rw [Pt.eq_iff];rcases Int.mul_eq_zero.1 e1 with h | h
  ·omega
  ·rcases Int.mul_eq_zero.1 e2 with h' | h'
   ·omega
   ·omega
theorem zHc {a b c : Pt} (ha : vld a = true) (hb : vld b = true) (hc : vld c = true) : -562949886312450 ≤ det a b c ∧ det a b c ≤ 562949886312450 := by
 have := cr_bd (zDj ha hb) (zDj ha hc);exact this
theorem zDc {a b p : Pt} (va : vld a = true) (vb : vld b = true) (vp : vld p = true) : (0 < ori a b p ↔ 0 < det a b p) ∧ (0 ≤ ori a b p ↔ 0 ≤ det a b p) ∧ (ori a b p = 0 ↔ det a b p = 0) := by
 rw [ori_v va vb vp];have := zAj (det a b p);omega
end Go.Proofs.YtmobnmjjmafibaaGreat
namespace Go.Proofs.YtmobnmjjmafibaaGreat
open Go.RowKit Go.Sort
theorem zF2 (p q : Pt) : cmpP q p = -cmpP p q := by
 unfold cmpP cmpN sgn; (repeat' split) <;> omega
theorem zC9 {p q : Pt} : cmpP p q = 0 ↔ p = q := by
 rw [Pt.eq_iff]; unfold cmpP cmpN sgn; (repeat' split) <;> omega
theorem cmpP_lt {p q : Pt} : cmpP p q < 0 ↔ p.x < q.x ∨ (p.x = q.x ∧ p.y < q.y) := by
 unfold cmpP cmpN sgn; (repeat' split) <;> omega
theorem zDu {p q r : Pt} (h1 : cmpP p q < 0) (h2 : cmpP q r < 0) : cmpP p r < 0 := by
 rw [cmpP_lt] at *; omega
theorem zK6 (S T : Tri3) : cmpT T S = -cmpT S T := by
 unfold cmpT; rw [zF2 S.A T.A, zF2 S.B T.B, zF2 S.C T.C]; (repeat' split) <;> omega
theorem cmpT_eq0 {S T : Tri3} : cmpT S T = 0 ↔ S = T := by
 rw [Tri3.eq_iff, ← zC9, ← zC9 (p := S.B), ← zC9 (p := S.C)];unfold cmpT; (repeat' split) <;> omega
theorem cmpT_lt {S T : Tri3} : cmpT S T < 0 ↔ cmpP S.A T.A < 0 ∨ (S.A = T.A ∧ (cmpP S.B T.B < 0 ∨ (S.B = T.B ∧ cmpP S.C T.C < 0))) := by
 rw [← zC9 (p := S.A), ← zC9 (p := S.B)];unfold cmpT; (repeat' split) <;> omega
theorem cmpT_trans {S T U : Tri3} (h1 : cmpT S T < 0) (h2 : cmpT T U < 0) : cmpT S U < 0 := by
 rw [cmpT_lt] at *;rcases h1 with h1 | ⟨e1, h1⟩ <;> rcases h2 with h2 | ⟨e2, h2⟩
 ·exact .inl (zDu h1 h2)
 ·exact .inl (e2 ▸ h1)
 ·exact .inl (e1 ▸ h2)
 ·refine .inr ⟨e1.trans e2, ?_⟩;rcases h1 with h1 | ⟨f1, h1⟩ <;> rcases h2 with h2 | ⟨f2, h2⟩
  ·exact .inl (zDu h1 h2)
  ·exact .inl (f2 ▸ h1)
  ·exact .inl (f1 ▸ h2)
  ·exact .inr ⟨f1.trans f2, zDu h1 h2⟩
structure Whole {α : Type} (c : α → α → Int) : Prop where
 neg : ∀ x y, c y x = -c x y
 eq0 : ∀ {x y}, c x y = 0 ↔ x = y
 trans : ∀ {x y z}, c x y < 0 → c y z < 0 → c x z < 0
theorem wholeP : Whole cmpP := ⟨zF2, zC9, zDu⟩
theorem wholeT : Whole cmpT := ⟨zK6, cmpT_eq0, cmpT_trans⟩
section
variable {α : Type} {c : α → α → Int}
theorem Whole.swo (W : Whole c) : SWO (ltOf c) where
 irrefl x := by unfold ltOf; have := (W.eq0 (x := x) (y := x)).2 rfl; simp; omega
 trans x y z h1 h2 := by unfold ltOf at *; simp at *; exact W.trans h1 h2
 ntrans x y z h1 h2 := by
  unfold ltOf at *; simp at *;rcases Int.lt_or_le (c x z) 0 with h | h
  ·exfalso
   have n1 := W.neg x y;have n2 := W.neg y z;rcases Int.lt_or_eq_of_le h1 with g1 | g1
   ·have := W.trans (x := y) (y := x) (z := z) (by omega) h;omega
   ·have e := W.eq0.1 g1.symm;subst e; omega
  ·exact h
theorem Whole.one (W : Whole c) : ∀ x y, ltOf c x y = false → ltOf c y x = false → x = y := fun x y h1 h2 => by
 unfold ltOf at *;simp at h1 h2;rw [W.neg x y] at h2;exact W.eq0.1 (by omega)
def srt (c : α → α → Int) (L : List α) : List α := L.mergeSort fun x y => !(ltOf c) y x
def InOrder (c : α → α → Int) (L : List α) : Prop := L.Pairwise fun x y => c x y ≤ 0
theorem zAg (L : List α) : (srt c L).Perm L := List.mergeSort_perm _ _
theorem Whole.le_trans (W : Whole c) {x y z : α} (h1 : c x y ≤ 0) (h2 : c y z ≤ 0) : c x z ≤ 0 := by
 rcases Int.lt_or_eq_of_le h1 with g1 | g1
 ·rcases Int.lt_or_eq_of_le h2 with g2 | g2
  ·have := W.trans g1 g2; omega
  ·have e := W.eq0.1 g2; subst e; exact h1
 ·have e := W.eq0.1 g1; subst e; exact h2
theorem Whole.srt_order (W : Whole c) (L : List α) : InOrder c (srt c L) := by
 have h := List.pairwise_mergeSort (le := fun x y => !(ltOf c) y x) (fun a b d h1 h2 => by
  unfold ltOf at *;simp at *;have n1 := W.neg a b;have n2 := W.neg b d;have n3 := W.neg a d;have := W.le_trans (x := a) (y := b) (z := d) (by omega) (by omega);omega) (fun a b => by
  unfold ltOf;have := W.neg a b;simp;omega) L
 refine h.imp fun {a b} h1 => ?_;unfold ltOf at h1;simp at h1;have := W.neg a b;omega
theorem Whole.unique (W : Whole c) : ∀ {L M : List α}, L.Perm M → InOrder c L → InOrder c M → L = M
 | [], M, hp, _, _ => by rw [List.nil_perm.1 hp]
 | x :: L, M, hp, h1, h2 => by
  cases M with
  | nil => exact absurd hp.length_eq (by simp)
  | cons y M =>
   unfold InOrder at *;rw [List.pairwise_cons] at h1 h2;have e : x = y := by
    rcases List.mem_cons.1 (hp.mem_iff.1 (List.mem_cons_self)) with e | hx
    ·exact e
    ·rcases List.mem_cons.1 (hp.mem_iff.2 (List.mem_cons_self)) with e | hy
     ·exact e.symm
     ·have a1 := h1.1 y hy;have a2 := h2.1 x hx;have := W.neg x y;exact W.eq0.1 (by omega)
   subst e;rw [Whole.unique W (hp.cons_inv) h1.2 h2.2]
theorem Whole.srt_eq (W : Whole c) {L M : List α} (hp : M.Perm L) (ho : InOrder c M) : M = srt c L :=
 W.unique (hp.trans (zAg L).symm) ho (W.srt_order L)
theorem Whole.srt_of_perm (W : Whole c) {L M : List α} (hp : M.Perm L) : srt c M = srt c L := W.srt_eq ((zAg M).trans hp) (W.srt_order M)
end
end Go.Proofs.YtmobnmjjmafibaaGreat
namespace Go.Proofs.YtmobnmjjmafibaaGreat
open Go.RowKit Go.Sort Go.Lib Go.Shelf
section
variable {α : Type} {c : α → List Value} {k : Nat}
theorem zBf (hc : ∀ x, (c x).length = k) : ∀ L : List α, (L.flatMap c).length = L.length * k
 | [] => by simp
 | x :: L => by rw [List.flatMap_cons, List.length_append, hc, zBf hc L, List.length_cons, Nat.add_mul]; omega
theorem zBm (hc : ∀ x, (c x).length = k) : ∀ (L : List α) (j i : Nat) (x : α), L[j]? = some x → i < k → (L.flatMap c)[j * k + i]? = (c x)[i]?
 | [], j, i, x, h, _ => by simp at h
 | y :: L, 0, i, x, h, hi => by
  simp at h; subst h;rw [List.flatMap_cons, Nat.zero_mul, Nat.zero_add, List.getElem?_append_left (by rw [hc]; exact hi)]
 | y :: L, j + 1, i, x, h, hi => by
  rw [List.flatMap_cons, List.getElem?_append_right (by rw [hc, Nat.add_mul]; omega), hc];rw [show (j + 1) * k + i - k = j * k + i by rw [Nat.add_mul]; omega];exact zBm hc L j i x (by simpa using h) hi
theorem zE6 {w : World} {B : Nat} {T : TypeId} {v : Value} {L : List α} (hc : ∀ x, (c x).length = k) (h : w.ownsRow B T k v L.length (L.flatMap c)) :
    ∃ a cap, v = .slice a L.length cap ∧ RowAt c k w a L := by
 rcases h.2 with ⟨rfl, h0⟩ | ⟨g, cap, cur, rfl, hB, hb, h1, h2, h3, h4⟩
 ·have : L = [] := List.eq_nil_of_length_eq_zero h0;subst this;exact ⟨none, 0, rfl, RowAt.nil⟩
 ·refine ⟨some ⟨g, 0, none⟩, cap, rfl, fun j x hj => ⟨_, rfl, (Array.getElem?_eq_some_iff.1 hb).1, fun i u hu => ?_⟩⟩;have hi : i < k := by rw [← hc x]; exact (List.getElem?_eq_some_iff.1 hu).1
  have e := zBm hc L j i x hj hi;rw [hu, ← h4, List.getElem?_take] at e;split at e
  ·rw [Addr.add_lit, Addr.add_lit];simp only [World.cell?, hb, Nat.zero_add]
   simpa using e
  ·cases e
end
section
variable {α : Type} [Inhabited α] {c : α → List Value} {k : Nat}
theorem holdsK_of_owns {w : World} {B g cap n : Nat} {T : TypeId} {L : List α} (hc : ∀ x, (c x).length = k) (h : w.ownsRow B T k (.slice (some ⟨g, 0, none⟩) n cap) L.length (L.flatMap c)) : HoldsK c k w g 0 L.toArray ∧ g < w.heap.size := by
 rcases h.2 with ⟨h0, _⟩ | ⟨g', cap', cur, h0, hB, hb, h1, h2, h3, h4⟩
 ·cases h0
 ·simp only [Value.slice.injEq, Option.some.injEq, Addr.mk.injEq, and_true] at h0;obtain ⟨e1, e2, e3⟩ := h0;subst e1 e3;refine ⟨fun t ht => ⟨?_, by simp [World.frozen?, hb]⟩, (Array.getElem?_eq_some_iff.1 hb).1⟩;have ht' : t < L.length * k := by simpa using ht
  rw [get_flatK _ _ _ _ (by simpa using ht')]
  have k0 : 0 < k := by rcases Nat.eq_zero_or_pos k with h | h; · subst h; simp at ht'
                        ·exact h
  have hj : t / k < L.length := by rwa [Nat.div_lt_iff_lt_mul k0]
  have hi : t % k < k := Nat.mod_lt _ k0;have e := zBm hc L (t / k) (t % k) L[t / k] (List.getElem?_eq_getElem hj) hi;rw [show t / k * k + t % k = t by rw [Nat.mul_comm]; exact Nat.div_add_mod t k, ← h4, List.getElem?_take] at e;split at e
  ·simp only [World.cell?, hb, Nat.zero_add];simp only [Option.isSome_none, Bool.false_eq_true, if_false];rw [← Array.getElem?_toList, e];simp [hj, hc, hi]
  ·rename_i hh; exact absurd ht' hh
theorem rowAt_of_holdsK {w : World} {g : Nat} {L : List α} (hc : ∀ x, (c x).length = k) (h : HoldsK c k w g 0 L.toArray) (hg : g < w.heap.size) : RowAt c k w (some ⟨g, 0, none⟩) L := fun j x hj => by
 refine ⟨_, rfl, hg, fun i u hu => ?_⟩;have hi : i < k := by rw [← hc x]; exact (List.getElem?_eq_some_iff.1 hu).1
 have hjl : j < L.length := (List.getElem?_eq_some_iff.1 hj).1;have e := (h.cell (i := j) (c := i) (by simpa using hjl) hi).1;rw [Addr.add_lit, Addr.add_lit, e];have e2 : L.toArray[j]! = x := by
  rw [getElem!_pos _ j (by simpa using hjl)]
  simpa using (List.getElem?_eq_some_iff.1 hj).2
 rw [e2, ← hu, List.getElem!_eq_getElem?_getD, List.getElem?_eq_getElem (by rw [hc]; exact hi)];rfl
theorem zEa {w : World} {g n : Nat} {os : Array Obj} (d : Array α) : w.grownBy (sortWorldK c k w g 0 n d os) (some g) := by
 refine ⟨rfl, rfl, rfl, by simp [sortWorldK, putRowK], fun i hi hne => ?_⟩;unfold sortWorldK putRowK;rw [heap_grow_old _ _ (by simpa using hi)];have : g ≠ i := fun e => hne (by rw [e]);simp [putRow, mapBlock, Sort.ahead, Array.getElem?_modify, this]
theorem holdsK_sortK {w : World} {g n : Nat} {os : Array Obj} {d d' : Array α} (h : HoldsK c k w g 0 d) (hg : g < w.heap.size) (hs : d'.size = d.size) : HoldsK c k (sortWorldK c k w g 0 n d' os) g 0 d' := by
 unfold sortWorldK;refine holdsK_grow c k _ os g 0 d' (by simp [putRowK, Sort.ahead]; exact hg) ?_;exact holdsK_putRowK c k _ g 0 d d' (holdsK_ahead c k w n g 0 d h) hs
end
end Go.Proofs.YtmobnmjjmafibaaGreat
namespace Go.Proofs.YtmobnmjjmafibaaGreat
open Go.RowKit
attribute [local go_sem 10000] pt_eql pt_neq
structure Wl where
 A : Pt
 B : Pt
 K : Int
theorem Wl.eq_iff {p q : Wl} : p = q ↔ p.A = q.A ∧ p.B = q.B ∧ p.K = q.K := by
 cases p; cases q; simp
instance : DecidableEq Pt := fun p q => decidable_of_iff (p.x = q.x ∧ p.y = q.y) Pt.eq_iff.symm
instance : DecidableEq Wl := fun p q => decidable_of_iff (p.A = q.A ∧ p.B = q.B ∧ p.K = q.K) Wl.eq_iff.symm
instance : Inhabited Wl := ⟨⟨⟨0, 0⟩, ⟨0, 0⟩, 0⟩⟩
def cW (t : Wl) : List Value := [.int .i64 t.A.x, .int .i64 t.A.y, .int .i64 t.B.x, .int .i64 t.B.y, .int .i64 t.K]
theorem zHu (x : Wl) : (cW x).length = 5 := rfl
theorem zL4 (x : Wl) : ∀ v ∈ cW x, v.oneCell' = true := by intro v hv; simp [cW] at hv; rcases hv with rfl | rfl | rfl | rfl | rfl <;> rfl
def weqI (a b c d k e f g h l : Int) : Bool := decide (a = e) && (decide (b = f) && (decide (c = g) && (decide (d = h) && decide (k = l))))
theorem wal_eql (a b c d k e f g h l : Int) (w : World) : (binOp .eql 105 (.agg #[.int .i64 a, .int .i64 b, .int .i64 c, .int .i64 d, .int .i64 k]) (.agg #[.int .i64 e, .int .i64 f, .int .i64 g, .int .i64 h, .int .i64 l])).run Tryz.prog w = .ok (.bool (weqI a b c d k e f g h l)) w := by
 unfold weqI;by_cases h1 : a = e
 case neg => simp [go_sem, h1]
 case pos =>
 by_cases h2 : b = f
 case neg => simp [go_sem, h1, h2]
 case pos =>
 by_cases h3 : c = g
 case neg => simp [go_sem, h1, h2, h3]
 case pos =>
 by_cases h4 : d = h
 case neg => simp [go_sem, h1, h2, h3, h4]
 case pos => by_cases h5 : k = l <;> simp [go_sem, h1, h2, h3, h4, h5]
theorem wal_neq (a b c d k e f g h l : Int) (w : World) : (binOp .neq 105 (.agg #[.int .i64 a, .int .i64 b, .int .i64 c, .int .i64 d, .int .i64 k]) (.agg #[.int .i64 e, .int .i64 f, .int .i64 g, .int .i64 h, .int .i64 l])).run Tryz.prog w = .ok (.bool (!weqI a b c d k e f g h l)) w := by
 unfold weqI;by_cases h1 : a = e
 case neg => simp [go_sem, h1]
 case pos =>
 by_cases h2 : b = f
 case neg => simp [go_sem, h1, h2]
 case pos =>
 by_cases h3 : c = g
 case neg => simp [go_sem, h1, h2, h3]
 case pos =>
 by_cases h4 : d = h
 case neg => simp [go_sem, h1, h2, h3, h4]
 case pos => by_cases h5 : k = l <;> simp [go_sem, h1, h2, h3, h4, h5]
theorem zC3 (p q : Pt) : peqI p.x p.y q.x q.y = decide (p = q) := by rw [Bool.eq_iff_iff, zC2, ← Pt.eq_iff]; simp
theorem RowAt.wal {w : World} {a : Option Addr} {L : List Wl} (h : RowAt cW 5 w a L) {j : Nat} (hj : j < L.length) :
    ∃ ad A, a = some ad ∧ ad.add (j * 5) = A ∧ (A.block = w.heap.size) = False ∧ A.block < w.heap.size ∧ (w.cell? A = some (.int .i64 L[j].A.x) ∧ w.cell? ⟨A.block, A.off + 1, none⟩ = some (.int .i64 L[j].A.y) ∧ w.cell? ⟨A.block, A.off + 2, none⟩ = some (.int .i64 L[j].B.x) ∧
     w.cell? ⟨A.block, A.off + 3, none⟩ = some (.int .i64 L[j].B.y) ∧ w.cell? ⟨A.block, A.off + 4, none⟩ = some (.int .i64 L[j].K)) := by
 obtain ⟨ad, h1, h2, h3⟩ := h j L[j] (List.getElem?_eq_getElem hj);have hb : (ad.add (j * 5)).block = ad.block := zAk _ _;refine ⟨ad, _, h1, rfl, by rw [hb]; simp; omega, by rw [hb]; exact h2, ?_⟩;have e0 := h3 0 _ rfl;have e1 := h3 1 _ rfl;have e2 := h3 2 _ rfl;have e3 := h3 3 _ rfl;have e4 := h3 4 _ rfl;simp only [Addr.add_zero', Addr.add_succ'] at e0 e1 e2 e3 e4;exact ⟨e0, e1, e2, e3, e4⟩
def mkK (k : Int) : Bool := decide (k = 1) || decide (k = 2)
def mkOk (a b : Pt) (k : Int) : Bool := mkK k && (!decide (a = b) && (vld a && vld b))
def mkW (a b : Pt) (k : Int) : Wl := if mkOk a b k then ⟨lo2 a b, hi2 a b, k⟩ else ⟨⟨0, 0⟩, ⟨0, 0⟩, 0⟩
end Go.Proofs.YtmobnmjjmafibaaGreat
namespace Go.Proofs.YtmobnmjjmafibaaGreat
open Go.RowKit Go.Sort
attribute [local go_sem] Dr.rOper Dr.rAt Dr.rUpon cell_set sg_i64 sg_u64 alloc_cell alloc_frozen
attribute [local go_sem 10000] pt_eql pt_neq wal_eql wal_neq
attribute [local irreducible] Dr.rWalk
def cmpW (S T : Wl) : Int := if cmpP S.A T.A ≠ 0 then cmpP S.A T.A else if cmpP S.B T.B ≠ 0 then cmpP S.B T.B else cmpN S.K T.K
end Go.Proofs.YtmobnmjjmafibaaGreat
namespace Go.Proofs.YtmobnmjjmafibaaGreat
open Go.Shelf Go.Proofs
def sortTri_ren : Go.Shelf.Ren := ⟨fun | 6 => 92 | 15 => 123 | 14 => 126 | 28 => 153 | 29 => 154 | 20 => 156 | 21 => 157 | 22 => 158 | 23 => 159 | 24 => 160 | 25 => 161 | 26 => 162 | 27 => 163 | 46 => 186 | 47 => 182 | 48 => 183 | 49 => 187 | 50 => 188 | 57 => 206 | n => n, fun | 22 => 32 | 24 => 38 | 25 => 81 | 3 => 3 | 39 => 143 | 0 => 0 | 53 => 171 | 55 => 130 | 4 => 4 | 46 => 165 | 45 => 164 | 50 => 152 | 5 => 5 | 9 => 9 | 66 => 194 | 70 => 198 | 76 => 211 | 77 => 212 | n => n, fun | n => n⟩
theorem sortTri : Go.Proofs.SlLaysF0.n6 Tryz.prog sortTri_ren := {
 mixed := by kernel_rfl
 f6 := ⟨Tryz.f92.name, by decide, Tryz.func92.trans (congrArg some (by kernel_rfl))⟩
 f14 := ⟨Tryz.f126.name, by decide, Tryz.func126.trans (congrArg some (by kernel_rfl))⟩
 f15 := Tryz.func123.trans (congrArg some (by kernel_rfl))
 f20 := ⟨Tryz.f156.name, by decide, Tryz.func156.trans (congrArg some (by kernel_rfl))⟩
 f21 := ⟨Tryz.f157.name, by decide, Tryz.func157.trans (congrArg some (by kernel_rfl))⟩
 f22 := ⟨Tryz.f158.name, by decide, Tryz.func158.trans (congrArg some (by kernel_rfl))⟩
 f23 := ⟨Tryz.f159.name, by decide, Tryz.func159.trans (congrArg some (by kernel_rfl))⟩
 f24 := ⟨Tryz.f160.name, by decide, Tryz.func160.trans (congrArg some (by kernel_rfl))⟩
 f25 := ⟨Tryz.f161.name, by decide, Tryz.func161.trans (congrArg some (by kernel_rfl))⟩
 f26 := ⟨Tryz.f162.name, by decide, Tryz.func162.trans (congrArg some (by kernel_rfl))⟩
 f27 := ⟨Tryz.f163.name, by decide, Tryz.func163.trans (congrArg some (by kernel_rfl))⟩
 f28 := Tryz.func153.trans (congrArg some (by kernel_rfl))
 f29 := Tryz.func154.trans (congrArg some (by kernel_rfl))
 f46 := ⟨Tryz.f186.name, by decide, Tryz.func186.trans (congrArg some (by kernel_rfl))⟩
 f47 := Tryz.func182.trans (congrArg some (by kernel_rfl))
 f48 := Tryz.func183.trans (congrArg some (by kernel_rfl))
 f49 := ⟨Tryz.f187.name, by decide, Tryz.func187.trans (congrArg some (by kernel_rfl))⟩
 f50 := ⟨Tryz.f188.name, by decide, Tryz.func188.trans (congrArg some (by kernel_rfl))⟩
 f57 := ⟨Tryz.f206.name, by decide, Tryz.func206.trans (congrArg some (by kernel_rfl))⟩
 t0 := Tryz.underlying0
 a0 := Tryz.isAgg0
 z0 := Tryz.sizeOf0
 v0 := Tryz.zeroValue0
 t3 := Tryz.underlying3
 a3 := Tryz.isAgg3
 z3 := Tryz.sizeOf3
 v3 := Tryz.zeroValue3
 t4 := Tryz.underlying4
 a4 := Tryz.isAgg4
 z4 := Tryz.sizeOf4
 v4 := Tryz.zeroValue4
 t5 := Tryz.underlying5
 a5 := Tryz.isAgg5
 z5 := Tryz.sizeOf5
 v5 := Tryz.zeroValue5
 t9 := Tryz.underlying9
 a9 := Tryz.isAgg9
 z9 := Tryz.sizeOf9
 v9 := Tryz.zeroValue9
 t22 := Tryz.underlying32
 a22 := Tryz.isAgg32
 z22 := Tryz.sizeOf32
 v22 := Tryz.zeroValue32
 t25 := Tryz.underlying81
 a25 := Tryz.isAgg81
 z25 := Tryz.sizeOf81
 v25 := Tryz.zeroValue81
 t39 := Tryz.underlying143
 a39 := Tryz.isAgg143
 z39 := Tryz.sizeOf143
 v39 := Tryz.zeroValue143
 t45 := Tryz.underlying164
 a45 := Tryz.isAgg164
 z45 := Tryz.sizeOf164
 v45 := Tryz.zeroValue164
 t46 := Tryz.underlying165
 a46 := Tryz.isAgg165
 z46 := Tryz.sizeOf165
 v46 := Tryz.zeroValue165
 t50 := Tryz.underlying152
 a50 := Tryz.isAgg152
 z50 := Tryz.sizeOf152
 v50 := Tryz.zeroValue152
 t53 := Tryz.underlying171
 a53 := Tryz.isAgg171
 z53 := Tryz.sizeOf171
 v53 := Tryz.zeroValue171
 t55 := Tryz.underlying130
 a55 := Tryz.isAgg130
 z55 := Tryz.sizeOf130
 v55 := Tryz.zeroValue130
 t66 := Tryz.underlying194
 a66 := Tryz.isAgg194
 z66 := Tryz.sizeOf194
 v66 := Tryz.zeroValue194
 t70 := Tryz.underlying198
 a70 := Tryz.isAgg198
 z70 := Tryz.sizeOf198
 v70 := Tryz.zeroValue198
 t76 := Tryz.underlying211
 a76 := Tryz.isAgg211
 z76 := Tryz.sizeOf211
 v76 := Tryz.zeroValue211
 t77 := Tryz.underlying212
 a77 := Tryz.isAgg212
 z77 := Tryz.sizeOf212
 v77 := Tryz.zeroValue212 }
end Go.Proofs.YtmobnmjjmafibaaGreat
namespace Go.Proofs.YtmobnmjjmafibaaGreat
open Go.RowKit Go.Sort Go.Lib Go.Shelf
def WRow (w : World) (B : Nat) (v : Value) (L : List Wl) : Prop := w.ownsRow B 105 5 v L.length (L.flatMap cW)
def Flat (a : Option Addr) : Prop := ∀ ad, a = some ad → ad.spot = none
theorem WRow.row {w : World} {B : Nat} {v : Value} {L : List Wl} (h : WRow w B v L) : ∃ a cap, v = .slice a L.length cap ∧ RowAt cW 5 w a L ∧ Flat a := by
 obtain ⟨a, cap, h1, h2⟩ := zE6 zHu h;refine ⟨a, cap, h1, h2, fun ad ha => ?_⟩;rcases h.2 with ⟨h0, _⟩ | ⟨g, cap', cur, h0, _⟩
 ·rw [h1] at h0; simp at h0; rw [h0.1] at ha; cases ha
 ·rw [h1] at h0; simp at h0; rw [h0.1] at ha; cases ha; rfl
theorem WRow.nil0 (w : World) (B : Nat) : WRow w B (.slice none 0 0) [] := World.ownsRow_nil _ _ _ _
theorem WRow.kept {w w' : World} {B : Nat} {v : Value} {L : List Wl} {row : Option Nat} (h : WRow w B v L) (hg : w.grownBy w' row) (hne : v.ownBlock = none ∨ v.ownBlock ≠ row) : WRow w' B v L := World.ownsRow.kept h hg hne
theorem WRow.lt {w : World} {B : Nat} {v : Value} {L : List Wl} (h : WRow w B v L) : ∀ k, v.ownBlock = some k → B ≤ k ∧ k < w.heap.size := World.ownsRow.lt h
theorem WRow.base {w : World} {B B' : Nat} {v : Value} {L : List Wl} (h : WRow w B v L) (hb : B' ≤ B) : WRow w B' v L := by
 refine ⟨h.1, ?_⟩;rcases h.2 with h | ⟨g, cap, cur, h0, h1, h2⟩
 ·exact .inl h
 ·exact .inr ⟨g, cap, cur, h0, Nat.le_trans hb h1, h2⟩
theorem WRow.ext {w w' : World} {B n : Nat} {v : Value} {L : List Wl} (h : WRow w B v L) (hb : Below n w w') (hn : n = w.heap.size) : WRow w' B v L := by
 refine ⟨h.1, ?_⟩;rcases h.2 with h | ⟨g, cap, cur, h0, h1, h2, h3⟩
 ·exact .inl h
 ·refine .inr ⟨g, cap, cur, h0, h1, ?_, h3⟩;have hl : g < w.heap.size := (Array.getElem?_eq_some_iff.1 h2).1;rw [hb.block g (by omega)]; exact h2
theorem WRow.ee {w w' : World} {B : Nat} {v : Value} {L : List Wl} (h : WRow w B v L) (hb : Below w.heap.size w w') : WRow w' B v L := h.ext hb rfl
theorem WRow.box {w : World} {B : Nat} {v : Value} {L : List Wl} (h : WRow w B v L) : (v = .slice none 0 0 ∧ L = []) ∨ ∃ g cap tl, v = .slice (some ⟨g, 0, none⟩) L.length cap ∧ B ≤ g ∧ Box w g (L.flatMap cW ++ tl) 105 ∧ L.length ≤ cap ∧ cap ≤ maxLen ∧ tl.length = (cap - L.length) * 5 := by
 rcases h.2 with ⟨h0, h1⟩ | ⟨g, cap, cur, h0, h1, h2, h3, h4, h5, h6⟩
 ·exact .inl ⟨h0, List.eq_nil_of_length_eq_zero h1⟩
 ·refine .inr ⟨g, cap, cur.toList.drop (L.length * 5), h0, h1, ?_, h3, h4, ?_⟩
  ·rw [← h6, List.take_append_drop]; exact h2
  ·rw [List.length_drop, Array.length_toList, h5]; omega
theorem WRow.of_box {w : World} {B g cap : Nat} {L : List Wl} {tl : List Value} (hB : B ≤ g) (h : Box w g (L.flatMap cW ++ tl) 105) (h1 : L.length ≤ cap) (h2 : cap ≤ maxLen) (h3 : tl.length = (cap - L.length) * 5) : WRow w B (.slice (some ⟨g, 0, none⟩) L.length cap) L := by
 have hl := zBf zHu L;refine ⟨hl, .inr ⟨g, cap, (L.flatMap cW ++ tl).toArray, rfl, hB, h, h1, h2, ?_, ?_⟩⟩
 ·simp only [List.size_toArray, List.length_append, hl, h3]; omega
 ·simp only [← hl]; exact List.take_left
theorem zGe : (Tryz.prog.info? 105).map (fun i => (i.zero, i.size, i.bytes)) = some (some (.agg #[.int .i64 0, .int .i64 0, .int .i64 0, .int .i64 0, .int .i64 0]), 5, 40) := by kernel_rfl
theorem RowAt.flat {w : World} {b off : Nat} {L : List Wl} (h : RowAt cW 5 w (some ⟨b, off, none⟩) L) : ∀ t u, (L.flatMap cW)[t]? = some u → b < w.heap.size ∧ w.cell? ⟨b, off + t, none⟩ = some u := fun t u hu => by
 have ht : t < L.length * 5 := by have := (List.getElem?_eq_some_iff.1 hu).1; rwa [zBf zHu] at this
 have hj : t / 5 < L.length := by omega
 have e := zBm zHu L (t / 5) (t % 5) L[t / 5] (List.getElem?_eq_getElem hj) (by omega);rw [show t / 5 * 5 + t % 5 = t by omega, hu] at e;obtain ⟨ad, h1, h2, h3⟩ := h (t / 5) L[t / 5] (List.getElem?_eq_getElem hj);cases h1
 have h4 := h3 (t % 5) u e.symm;simp only [Addr.add_lit] at h4;rw [show off + t / 5 * 5 + t % 5 = off + t by omega] at h4;exact ⟨h2, h4⟩
end Go.Proofs.YtmobnmjjmafibaaGreat
namespace Go.Proofs.YtmobnmjjmafibaaGreat
open Go.RowKit Go.Sort
attribute [local go_sem] rOper rAt rUpon cell_set sg_i64 sg_u64 alloc_cell alloc_frozen
attribute [local go_sem 10000] pt_eql pt_neq wal_eql wal_neq
attribute [local irreducible] rWalk
def Five (w : World) (A : Addr) (p : Wl) : Prop := A.block < w.heap.size ∧ w.cell? A = some (.int .i64 p.A.x) ∧ w.cell? ⟨A.block, A.off + 1, none⟩ = some (.int .i64 p.A.y) ∧ w.cell? ⟨A.block, A.off + 2, none⟩ = some (.int .i64 p.B.x) ∧ w.cell? ⟨A.block, A.off + 3, none⟩ = some (.int .i64 p.B.y) ∧ w.cell? ⟨A.block, A.off + 4, none⟩ = some (.int .i64 p.K)
theorem RowAt.five {w : World} {a : Option Addr} {L : List Wl} (h : RowAt cW 5 w a L) {j : Nat} (hj : j < L.length) : ∃ ad A, a = some ad ∧ ad.add (j * 5) = A ∧ Five w A L[j] := by
 obtain ⟨ad, A, h1, h2, _, h4, h5⟩ := h.wal hj;exact ⟨ad, A, h1, h2, h4, h5⟩
theorem Five.ext {w w' : World} {A : Addr} {p : Wl} {n : Nat} (h : Five w A p) (hb : Below n w w') (hn : n = w.heap.size) : Five w' A p := by
 obtain ⟨h0, h1, h2, h3, h4, h5⟩ := h;have e : ∀ q : Addr, q.block = A.block → w'.cell? q = w.cell? q := fun q hq => hb.cell (by rw [hq, hn]; exact h0);exact ⟨Nat.lt_of_lt_of_le h0 hb.size, (e A rfl).trans h1, (e ⟨A.block, A.off + 1, none⟩ rfl).trans h2, (e ⟨A.block, A.off + 2, none⟩ rfl).trans h3, (e ⟨A.block, A.off + 3, none⟩ rfl).trans h4, (e ⟨A.block, A.off + 4, none⟩ rfl).trans h5⟩
theorem Five.ee {w w' : World} {A : Addr} {p : Wl} (h : Five w A p) (hb : Below w.heap.size w w') : Five w' A p := h.ext hb rfl
theorem Five.f {w : World} {A : Addr} {p : Wl} (h : Five w A p) : (A.block = w.heap.size) = False ∧ w.cell? A = some (.int .i64 p.A.x) ∧ w.cell? ⟨A.block, A.off + 1, none⟩ = some (.int .i64 p.A.y) ∧ w.cell? ⟨A.block, A.off + 2, none⟩ = some (.int .i64 p.B.x) ∧ w.cell? ⟨A.block, A.off + 3, none⟩ = some (.int .i64 p.B.y) ∧ w.cell? ⟨A.block, A.off + 4, none⟩ = some (.int .i64 p.K) := ⟨by simp; have := h.1; omega, h.2⟩
theorem Five.cells {w : World} {A : Addr} {p : Wl} (h : Five w A p) : (∀ d os, (grow (redrawn w d) os).cell? A = some (.int .i64 p.A.x)) ∧ (∀ d os, (grow (redrawn w d) os).cell? ⟨A.block, A.off + 1, none⟩ = some (.int .i64 p.A.y)) ∧ (∀ d os, (grow (redrawn w d) os).cell? ⟨A.block, A.off + 2, none⟩ = some (.int .i64 p.B.x)) ∧ (∀ d os, (grow (redrawn w d) os).cell? ⟨A.block, A.off + 3, none⟩ = some (.int .i64 p.B.y)) ∧ (∀ d os, (grow (redrawn w d) os).cell? ⟨A.block, A.off + 4, none⟩ = some (.int .i64 p.K)) := by
 have e := fun d os => (h.ext (below_regrown w d os) rfl).2;exact ⟨fun d os => (e d os).1, fun d os => (e d os).2.1, fun d os => (e d os).2.2.1, fun d os => (e d os).2.2.2.1, fun d os => (e d os).2.2.2.2⟩
end Go.Proofs.YtmobnmjjmafibaaGreat
namespace Go.Proofs.YtmobnmjjmafibaaGreat
section
variable {α : Type} {c : α → α → Int}
def Rising (c : α → α → Int) (L : List α) : Prop := L.Pairwise fun x y => c x y < 0
theorem zE8 (W : Whole c) {M : List α} {x : α} {k : Nat} (h : Rising c M) (hk : k ≤ M.length) (hlo : ∀ (i : Nat) (hi : i < k), c (M[i]'(by omega)) x < 0) (hhi : ∀ (i : Nat) (_ : k ≤ i) (h2 : i < M.length), 0 < c (M[i]'h2) x) :
    Rising c (M.take k ++ x :: M.drop k) ∧ ∀ p, p ∈ M.take k ++ x :: M.drop k ↔ p ∈ M ∨ p = x := by
 unfold Rising at *;have hs : M.take k ++ M.drop k = M := List.take_append_drop k M;rw [← hs, List.pairwise_append] at h;have g1 : ∀ y ∈ M.take k, c y x < 0 := fun y hy => by
  obtain ⟨i, hi, e⟩ := List.getElem_of_mem hy;simp only [List.length_take] at hi;rw [← e, List.getElem_take];exact hlo i (by omega)
 have g2 : ∀ y ∈ M.drop k, c x y < 0 := fun y hy => by
  obtain ⟨i, hi, e⟩ := List.getElem_of_mem hy;simp only [List.length_drop] at hi;rw [← e, List.getElem_drop];have := hhi (k + i) (by omega) (by omega);have := W.neg (M[k + i]'(by omega)) x;omega
 refine ⟨?_, fun p => ?_⟩
 ·rw [List.pairwise_append, List.pairwise_cons];exact ⟨h.1, ⟨g2, h.2.1⟩, fun a ha b hb => by
   rcases List.mem_cons.1 hb with rfl | hb
   ·exact g1 a ha
   ·exact h.2.2 a ha b hb⟩
 ·constructor
  ·intro hp;rcases List.mem_append.1 hp with hp | hp
   ·exact .inl (List.mem_of_mem_take hp)
   ·rcases List.mem_cons.1 hp with rfl | hp
    ·exact .inr rfl
    ·exact .inl (List.mem_of_mem_drop hp)
  ·rintro (hp | rfl)
   ·rw [← hs] at hp;rcases List.mem_append.1 hp with hp | hp
    ·exact List.mem_append.2 (.inl hp)
    ·exact List.mem_append.2 (.inr (List.mem_cons_of_mem _ hp))
   ·exact List.mem_append.2 (.inr List.mem_cons_self)
theorem rising_lt {M : List α} (h : Rising c M) {i j : Nat} (hi : i < M.length) (hj : j < M.length) (hij : i < j) : c M[i] M[j] < 0 := by
 unfold Rising at h;rw [List.pairwise_iff_getElem] at h;exact h i j hi hj hij
theorem rising_below (W : Whole c) {M : List α} {x : α} {k : Nat} (h : Rising c M) (hk : k < M.length) (hx : c M[k] x < 0) : ∀ (i : Nat) (hi : i < k + 1), c (M[i]'(by omega)) x < 0 := fun i hi => by
 by_cases e : i = k
 ·subst e; exact hx
 ·exact W.trans (rising_lt h (by omega) hk (by omega)) hx
structure Moved (M S : List α) (k : Nat) : Prop where
 len : S.length = M.length + 1
 lo : S.take k = M.take k
 hi : S.drop (k + 1) = M.drop k
theorem zFl (M : List α) (x : α) : Moved M (M ++ [x]) M.length := ⟨by simp, by simp, by simp⟩
theorem Moved.get {M S : List α} {k : Nat} (h : Moved M S (k + 1)) (hk : k < M.length) : S[k]'(by rw [h.len]; omega) = M[k] := by
 have := congrArg (fun l => l[k]?) h.lo;simp only [List.getElem?_take, show k < k + 1 by omega, if_true] at this;rw [List.getElem?_eq_getElem (by rw [h.len]; omega), List.getElem?_eq_getElem hk] at this;exact Option.some.inj this
theorem Moved.step {M S : List α} {k : Nat} (h : Moved M S (k + 1)) (hk : k < M.length) : Moved M (S.set (k + 1) M[k]) k := by
 refine ⟨by simp [h.len], ?_, ?_⟩
 ·rw [List.take_set_of_le (by omega)];have := congrArg (List.take k) h.lo
  simpa [List.take_take, Nat.min_eq_left (Nat.le_succ k)] using this
 ·rw [List.drop_set, if_neg (by omega), Nat.sub_self, List.drop_eq_getElem_cons (by rw [h.len]; omega), List.set_cons_zero, h.hi];exact (List.drop_eq_getElem_cons hk).symm
theorem Moved.done {M S : List α} {k : Nat} (h : Moved M S k) (hk : k ≤ M.length) (x : α) : S.set k x = M.take k ++ x :: M.drop k := by
 rw [List.set_eq_take_append_cons_drop, if_pos (by rw [h.len]; omega), h.lo, h.hi]
end
abbrev Ris (L : List Wl) : Prop := Rising cmpW L
def isW (p q : Pt) (x : Wl) : Bool := decide (x.A = p) && decide (x.B = q)
structure GoodW (x : Wl) : Prop where
 va : vld x.A = true
 vb : vld x.B = true
 ab : cmpP x.A x.B < 0
 k : x.K = 1 ∨ x.K = 2
open Go.RowKit Go.Sort
attribute [local go_sem] rOper rAt rUpon cell_set sg_i64 sg_u64 alloc_cell alloc_frozen
attribute [local go_sem 10000] pt_eql pt_neq wal_eql wal_neq
attribute [local irreducible] rWalk
theorem RowAt.take {α : Type} {c : α → List Value} {k : Nat} {w : World} {a : Option Addr} {L : List α} (h : RowAt c k w a L) (m : Nat) : RowAt c k w a (L.take m) := fun j x hx => h j x (by
 rw [List.getElem?_take] at hx;split at hx
 ·exact hx
 ·cases hx)
structure SetRd (w : World) (sb : Nat) (a0 : Option Addr) (c n : Nat) (L : List Wl) : Prop where
 box : Box w sb [.slice a0 n c] 151
 row : RowAt cW 5 w a0 L
 len : L.length = n
 le : L.length ≤ 1000000
 nc : n ≤ c
 flat : Flat a0
 nil0 : a0 = none → L = []
 ris : Ris L
 good : ∀ x ∈ L, GoodW x
theorem SetRd.ext {w w' : World} {sb c n m : Nat} {a0 : Option Addr} {L : List Wl} (S : SetRd w sb a0 c n L) (hb : Below m w w') (hm : m = w.heap.size) : SetRd w' sb a0 c n L :=
 ⟨S.box.ext hb hm, S.row.ext hb hm, S.len, S.le, S.nc, S.flat, S.nil0, S.ris, S.good⟩
theorem SetRd.ee {w w' : World} {sb c n : Nat} {a0 : Option Addr} {L : List Wl} (S : SetRd w sb a0 c n L) (hb : Below w.heap.size w w') : SetRd w' sb a0 c n L := S.ext hb rfl
theorem SetRd.pos {w : World} {sb c n : Nat} {a0 : Option Addr} {L : List Wl} (S : SetRd w sb a0 c n L) : ∀ x ∈ L, 0 < x.K := fun x hx => by have := (S.good x hx).k; omega
theorem zIz {w : World} {ops : Array Oper} {rest : List Oper} {o : Oper} {a : Act} {Q : Exit → Act → World → Prop} (hgd : o.guard = none) (s x : Operand)
    (ho : o.op = .call { callee := .builtin .append, args := #[s, x], argTypes := #[101, 101] })
    (B : Nat) (v : Value) (L : List Wl) (hs : a.eval s = v) (hown : WRow w B v L)
    (bx : Nat) (X : Wl) (hx : a.eval x = .slice (some ⟨bx, 0, none⟩) 1 1) (hbx : Box w bx (cW X) 105) (hn : L.length ≤ 1000000) (hbase : B ≤ w.heap.size)
    (h : ∀ w' v', WRow w' B v' (L ++ [X]) → w.grownBy w' v.ownBlock → v' ≠ .slice none 0 0 → wpList Tryz.prog ops Q rest (a.put o.dst v') w') : wpList Tryz.prog ops Q (o :: rest) a w := by
 obtain ⟨i0, hi, hz0, hz1, hz2⟩ := info_parts zGe;refine wpList_append_own w hgd s x 101 ho B 105 i0 _ 5 40 Tryz.underlying101 hi hz0 hz1 hz2 rfl (by decide) v L.length _ hs hown ⟨bx, 0, none⟩ 1 1 (cW X) hx rfl ?_ (zL4 X) ?_ ?_ hbase ?_
 ·intro j u hj;have := hbx.f.1 j;rw [hj] at this;rw [Addr.add_lit, Nat.zero_add];exact this
 ·unfold maxLen; omega
 ·omega
 ·intro v' w' hown' hg hnil;refine h w' v' ?_ hg (fun e => by have := (hnil.1 e).2; omega);unfold WRow;rw [List.length_append, List.length_singleton, List.flatMap_append]
  simpa using hown'
theorem Box.grownBy {w w' : World} {b : Nat} {cs : List Value} {T : TypeId} {row : Option Nat} (h : Box w b cs T) (hg : w.grownBy w' row) (hne : some b ≠ row) : Box w' b cs T := by
 have hl := h.lt;unfold Box at *;rw [hg.block b hl hne]; exact h
theorem WRow.ne {w : World} {B : Nat} {v : Value} {L : List Wl} (h : WRow w (B + 1) v L) : v.ownBlock ≠ some B := fun e => by have := (h.lt _ e).1; omega
theorem WRow.alloc {w : World} {B : Nat} {v : Value} {L : List Wl} (h : WRow w B v L) (o : Obj) : WRow (w.alloc o) B v L := World.ownsRow.alloc h o
def onV (o : Option Wl) : Value := match o with | some x => .tuple #[.agg #[.int .i64 x.A.x, .int .i64 x.A.y, .int .i64 x.B.x, .int .i64 x.B.y, .int .i64 x.K], .bool true] | none => .tuple #[.agg #[.int .i64 0, .int .i64 0, .int .i64 0, .int .i64 0, .int .i64 0], .bool false]
structure DocRd (w : World) (db : Nat) (a0 : Option Addr) (c n : Nat) (L : List Wl) : Prop where
 box : Box w db [.slice a0 n c] 103
 row : RowAt cW 5 w a0 L
 len : L.length = n
 le : L.length ≤ 1000000
 nc : n ≤ c
 flat : Flat a0
theorem DocRd.ext {w w' : World} {db c n m : Nat} {a0 : Option Addr} {L : List Wl} (S : DocRd w db a0 c n L) (hb : Below m w w') (hm : m = w.heap.size) : DocRd w' db a0 c n L :=
 ⟨S.box.ext hb hm, S.row.ext hb hm, S.len, S.le, S.nc, S.flat⟩
theorem DocRd.ee {w w' : World} {db c n : Nat} {a0 : Option Addr} {L : List Wl} (S : DocRd w db a0 c n L) (hb : Below w.heap.size w w') : DocRd w' db a0 c n L := S.ext hb rfl
def isE (p q : Pt) (x : Wl) : Bool := (decide (x.A = p) && decide (x.B = q)) || (decide (x.A = q) && decide (x.B = p))
theorem zHs (p q : Pt) (x : Wl) : isE p q x = ((peqI x.A.x x.A.y p.x p.y && peqI x.B.x x.B.y q.x q.y) || (peqI x.A.x x.A.y q.x q.y && peqI x.B.x x.B.y p.x p.y)) := by rw [zC3, zC3, zC3, zC3]; rfl
def kindD (L : List Wl) (p q : Pt) : Int := match L.find? (isE p q) with | some x => x.K | none => 0
theorem zIq {p : Wl → Bool} {L : List Wl} {k : Nat} (hk : k < L.length) (h0 : (L.take k).find? p = none) (h1 : p L[k] = true) : L.find? p = some L[k] := by
 refine List.find?_eq_some_iff_append.2 ⟨h1, L.take k, L.drop (k + 1), ?_, fun y hy => ?_⟩
 ·rw [List.getElem_cons_drop hk, List.take_append_drop]
 ·simpa using List.find?_eq_none.1 h0 y hy
theorem zCn {p : Wl → Bool} {L : List Wl} {k : Nat} (hk : k < L.length) (h0 : (L.take k).find? p = none) (h1 : p L[k] = false) : (L.take (k + 1)).find? p = none := by
 rw [List.take_succ_eq_append_getElem hk, List.find?_append, h0, List.find?_cons_of_neg (by rw [h1]; simp)]; rfl
theorem zK0 {p : Wl → Bool} {L : List Wl} (h0 : (L.take L.length).find? p = none) : L.find? p = none := by rwa [List.take_of_length_le (Nat.le_refl _)] at h0
theorem zD2 (db : Nat) (a0 : Option Addr) (c n : Nat) (L : List Wl) (a b : Pt) (w : World) (D : DocRd w db a0 c n L) :
    Calls Tryz.prog 140 #[.pointer (some ⟨db, 0, none⟩), .agg #[.int .i64 a.x, .int .i64 a.y], .agg #[.int .i64 b.x, .int .i64 b.y]] w fun e w' => e = .returned (.int .i64 (kindD L a b)) ∧ Below w.heap.size w w' := by
 have hdb := D.box.lt;have HM := Lib.hid D.len;have hn : n ≤ 1000000 := D.len ▸ D.le;have HD := Lib.hid D;clear D
 go_enter Tryz.func140, Tryz.ntmps140
 go_wp2;refine zA3 fun W1 hW => ?_;have BA : Box W1 w.heap.size [.int .i64 a.x, .int .i64 a.y] 30 := by rw [hW]; exact (Box.new rfl).old _
 have BB : Box W1 (w.heap.size + 1) [.int .i64 b.x, .int .i64 b.y] 30 := by rw [hW]; exact Box.new (by simp)
 have hw : Below w.heap.size w W1 := by rw [hW]; go_grown
 clear hW
 go_loopw [7] (fun vi wr => ∃ k : Nat, k ≤ n ∧ vi = .int .i64 k ∧ Hid ((L.take k).find? (isE a b) = none) ∧ Below w.heap.size w wr ∧ Box wr w.heap.size [.int .i64 a.x, .int .i64 a.y] 30 ∧ Box wr (w.heap.size + 1) [.int .i64 b.x, .int .i64 b.y] 30) (fun vi _ => n - (intOf vi).toNat)
 case atStart => exact ⟨0, Nat.zero_le _, rfl, Lib.hid rfl, hw, BA, BB⟩
 case round =>
  clear BA BB hw;obtain ⟨k, hk, rfl, HF, hwr, BA, BB⟩ := hrel;have BD := (HD.out.ee hwr).box;by_cases hlt : k < n
  ·have hkL : k < L.length := by rw [HM.out]; exact hlt
   obtain ⟨ad, A, ea, eA, hA⟩ := (HD.out.ee hwr).row.five (j := k) hkL;have HX : Hid (L[k] = L[k]) := Lib.hid rfl;generalize hX : L[k] = X at hA HX
   clear HX;have HX := Lib.hid hX;clear hX;obtain ⟨u0, u1, u2, u3, u4, u5⟩ := hA.f;obtain ⟨y0, y1, y2, y3⟩ := BA.f;obtain ⟨z0, z1, z2, z3⟩ := BB.f;obtain ⟨d0, d1, d2, d3⟩ := BD.f;subst ea;clear hA;cases e1 : peqI X.A.x X.A.y a.x a.y with
   | true =>
    cases e2 : peqI X.B.x X.B.y b.x b.y with
    | true =>
     have HE : Hid (isE a b X = true) := Lib.hid (by rw [zHs, e1, e2]; first | rfl | simp);have HK : Hid (kindD L a b = X.K) := Lib.hid (by unfold kindD; rw [zIq hkL HF.out (by rw [HX.out]; exact HE.out)]; show L[k].K = _; rw [HX.out]);have HW := Lib.hid hwr;clear HE HF HX hwr;go_wp2
     go_quiet (fail)
     go_wp2
     go_ret
     exact ⟨zAq HK.out.symm, HW.out.trans ⟨rfl, rfl, rfl, Nat.le_refl _, fun _ _ => rfl⟩⟩
    | false =>
     cases e3 : peqI X.A.x X.A.y b.x b.y with
     | true =>
      cases e4 : peqI X.B.x X.B.y a.x a.y with
      | true =>
       have HE : Hid (isE a b X = true) := Lib.hid (by rw [zHs, e1, e2, e3, e4]; first | rfl | simp);have HK : Hid (kindD L a b = X.K) := Lib.hid (by unfold kindD; rw [zIq hkL HF.out (by rw [HX.out]; exact HE.out)]; show L[k].K = _; rw [HX.out]);have HW := Lib.hid hwr;clear HE HF HX hwr;go_wp2
       go_quiet (fail)
       go_wp2
       go_ret
       exact ⟨zAq HK.out.symm, HW.out.trans ⟨rfl, rfl, rfl, Nat.le_refl _, fun _ _ => rfl⟩⟩
      | false =>
       have HE : Hid (isE a b X = false) := Lib.hid (by rw [zHs, e1, e2, e3, e4]; first | rfl | simp);have HG : Hid ((L.take (k + 1)).find? (isE a b) = none) := Lib.hid (zCn hkL HF.out (by rw [HX.out]; exact HE.out));have HW := Lib.hid hwr;have HA := Lib.hid BA;have HB := Lib.hid BB;clear HE HF HX hwr BA BB;go_wp2
       go_quiet (fail)
       go_wp2
       go_roundw
       case rel => exact ⟨k + 1, hlt, by go_num, HG, HW.out.trans ⟨rfl, rfl, rfl, Nat.le_refl _, fun _ _ => rfl⟩, by first | exact HA.out | exact HA.out.drew, by first | exact HB.out | exact HB.out.drew⟩
       case measure => simp [intOf]; omega
     | false =>
      have HE : Hid (isE a b X = false) := Lib.hid (by rw [zHs, e1, e2, e3]; first | rfl | simp);have HG : Hid ((L.take (k + 1)).find? (isE a b) = none) := Lib.hid (zCn hkL HF.out (by rw [HX.out]; exact HE.out));have HW := Lib.hid hwr;have HA := Lib.hid BA;have HB := Lib.hid BB;clear HE HF HX hwr BA BB;go_wp2
      go_quiet (fail)
      go_wp2
      go_roundw
      case rel => exact ⟨k + 1, hlt, by go_num, HG, HW.out.trans ⟨rfl, rfl, rfl, Nat.le_refl _, fun _ _ => rfl⟩, by first | exact HA.out | exact HA.out.drew, by first | exact HB.out | exact HB.out.drew⟩
      case measure => simp [intOf]; omega
   | false =>
    cases e3 : peqI X.A.x X.A.y b.x b.y with
    | true =>
     cases e4 : peqI X.B.x X.B.y a.x a.y with
     | true =>
      have HE : Hid (isE a b X = true) := Lib.hid (by rw [zHs, e1, e3, e4]; first | rfl | simp);have HK : Hid (kindD L a b = X.K) := Lib.hid (by unfold kindD; rw [zIq hkL HF.out (by rw [HX.out]; exact HE.out)]; show L[k].K = _; rw [HX.out]);have HW := Lib.hid hwr;clear HE HF HX hwr;go_wp2
      go_quiet (fail)
      go_wp2
      go_ret
      exact ⟨zAq HK.out.symm, HW.out.trans ⟨rfl, rfl, rfl, Nat.le_refl _, fun _ _ => rfl⟩⟩
     | false =>
      have HE : Hid (isE a b X = false) := Lib.hid (by rw [zHs, e1, e3, e4]; first | rfl | simp);have HG : Hid ((L.take (k + 1)).find? (isE a b) = none) := Lib.hid (zCn hkL HF.out (by rw [HX.out]; exact HE.out));have HW := Lib.hid hwr;have HA := Lib.hid BA;have HB := Lib.hid BB;clear HE HF HX hwr BA BB;go_wp2
      go_quiet (fail)
      go_wp2
      go_roundw
      case rel => exact ⟨k + 1, hlt, by go_num, HG, HW.out.trans ⟨rfl, rfl, rfl, Nat.le_refl _, fun _ _ => rfl⟩, by first | exact HA.out | exact HA.out.drew, by first | exact HB.out | exact HB.out.drew⟩
      case measure => simp [intOf]; omega
    | false =>
     have HE : Hid (isE a b X = false) := Lib.hid (by rw [zHs, e1, e3]; first | rfl | simp);have HG : Hid ((L.take (k + 1)).find? (isE a b) = none) := Lib.hid (zCn hkL HF.out (by rw [HX.out]; exact HE.out));have HW := Lib.hid hwr;have HA := Lib.hid BA;have HB := Lib.hid BB;clear HE HF HX hwr BA BB;go_wp2
     go_quiet (fail)
     go_wp2
     go_roundw
     case rel => exact ⟨k + 1, hlt, by go_num, HG, HW.out.trans ⟨rfl, rfl, rfl, Nat.le_refl _, fun _ _ => rfl⟩, by first | exact HA.out | exact HA.out.drew, by first | exact HB.out | exact HB.out.drew⟩
     case measure => simp [intOf]; omega
  ·obtain rfl : k = n := by omega
   have hK : kindD L a b = 0 := by
    unfold kindD;rw [zK0 (by rw [HM.out]; exact HF.out)]
   obtain ⟨d0, d1, d2, d3⟩ := BD.f;have HK := Lib.hid hK;clear hK;go_wp2
   go_ret
   exact ⟨zAq HK.out.symm, hwr⟩
end Go.Proofs.YtmobnmjjmafibaaGreat
