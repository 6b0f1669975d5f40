/- Put together: CdtJ, CdtK, CdtE, CdtH, DocD, DocF, CdtL. -/
import Derived.Test.YtjkfakaehjmnbaaGreatRows
import Derived.Test.YtjkfakaehjmnbaaGreatPmf12
import Derived.Test.YtjkfakaehjmnbaaGreatPmf14
import Derived.Test.YtjkfakaehjmnbaaGreatPmf6
import Derived.Test.YtjkfakaehjmnbaaGreatPmf1
import Derived.WalkKit
import Derived.WalkSpells
import Derived.WalkLawsBesides
import Derived.Laws.Externs
import Derived.Deep.QuietTactic
import Derived.BigQuiet
import Derived.Lib.Hide
import Derived.Handy
import Derived.OwnWalk
import Derived.Deep.LoopGhost
import Derived.LoopN
import Derived.RegionTactic
import Derived.Test.YtjkfakaehjmnbaaGreatPmf11
import Derived.Maps.RangeWalk
import Derived.Test.YtjkfakaehjmnbaaGreatPmf9
set_option maxRecDepth 100000
set_option maxHeartbeats 8000000
namespace Go.Proofs.YtjkfakaehjmnbaaGreat
open Go.RowKit
theorem zC5 {p : Pt} (h : vld p = true) : okP p := by
 rw [zAx] at h;have mn : IntKind.i64.min = -9223372036854775808 := by decide
 have mx : IntKind.i64.max = 9223372036854775807 := by decide
 have key : ∀ n : Int, 0 ≤ n → n < 16777216 → okI n := fun n h1 h2 => by
  show (decide (IntKind.i64.min ≤ n) && decide (n ≤ IntKind.i64.max)) = true;rw [mn, mx];simp; omega
 exact ⟨key _ h.1.1 h.1.2, key _ h.2.1 h.2.2⟩
theorem zB1 {T : Tri3} (h : valT T = true) : okT T := by
 obtain ⟨va, vb, vc, _⟩ := zGg h;exact ⟨zC5 va, zC5 vb, zC5 vc⟩
theorem isE_sym (p q : Pt) (x : Wl) : isE p q x = isE q p x := by unfold isE; exact Bool.or_comm _ _
theorem zIk (L : List Wl) (p q : Pt) : kindD L p q = kindD L q p := by
 unfold kindD;rw [show isE p q = isE q p from funext (isE_sym p q)]
def wll (D : List Wl) (a b : Pt) : Prop := kindD D a b ≠ 0
theorem zGe {T : Tri3} {a b c : Pt} (h : Cyc T a b c) (h1 : a ≠ b) (h2 : b ≠ c) (h3 : c ≠ a) : apx T a b = c ∧ apx T b a = c := by
 have t : ∀ p : Pt, peqI p.x p.y p.x p.y = true := fun p => pp rfl;unfold apx;rcases h with ⟨rfl, rfl, rfl⟩ | ⟨rfl, rfl, rfl⟩ | ⟨rfl, rfl, rfl⟩
 ·simp [t]
 ·rw [if_pos ⟨zBw.2 h3, zBw.2 (Ne.symm h2)⟩, if_pos ⟨zBw.2 (Ne.symm h2), zBw.2 h3⟩]; exact ⟨rfl, rfl⟩
 ·simp [t, zBw.2 h3, zBw.2 (Ne.symm h2)]
theorem zIz {T : Tri3} {a b c : Pt} (h : Cyc T a b c) (d : Pt) : circ T.A T.B T.C d = circ a b c d := by
 rcases h with ⟨rfl, rfl, rfl⟩ | ⟨rfl, rfl, rfl⟩ | ⟨rfl, rfl, rfl⟩
 ·rfl
 ·exact (zH5 T.A T.B T.C d).symm
 ·exact zH5 T.C T.A T.B d
theorem zBz {E : Es} {T : Tri3} (h : fitsE E T = true) : freeE E T = true := by
 rw [zDj] at h;simp only [Bool.and_eq_true] at h;exact h.1
structure Flips (E : Es) (p q : Pt) (S R U V : Tri3) (C D : Pt) : Prop where
 h0 : getE E (p, q) = some S
 h1 : getE E (q, p) = some R
 hC : apx S p q = C
 hD : apx R p q = D
 o1 : decide (ori p D C ≤ 0) = false
 o2 : decide (ori D q C ≤ 0) = false
 hU : mk p D C = U
 hV : mk D q C = V
 he : getE E (D, C) = none
 hf : getE E (C, D) = none
 hc : okW (C, D)
 hS : okT S
 hR : okT R
 hu : okT U
 hv : okT V
 f1 : freeE (takeT (takeT E S) R) U = true
 f2 : freeE (putT (takeT (takeT E S) R) U) V = true
def flipE (E : Es) (S R U V : Tri3) : Es := putT (putT (takeT (takeT E S) R) U) V
section
variable {W H : Int} {E : Es} {L : List Tri3} {D : List Wl} (hW : W < 16777216) (hH : H < 16777216) {h : Pt → Int}
include hW hH
theorem Flp.go {K : Pt → Pt → Prop} {S R : Tri3} {M : List Tri3} {p q c d : Pt} (g : Good E L) (t : Tiles W H L) (f : Flp K L S R M p q c d) :
    Flips E p q S R (mk p d c) (mk d q c) c d ∧ Good (flipE E S R (mk p d c) (mk d q c)) (mk c p d :: mk d q c :: M) := by
 have vb : ∀ q, inBox W H q → vld q = true := fun q hq => by rw [zAx]; unfold inBox at hq; omega
 obtain ⟨bp, bq, bc, bd⟩ := f.pts t;have mS : S ∈ L := f.perm.mem_iff.2 (by simp);have mR : R ∈ L := f.perm.mem_iff.2 (by simp);obtain ⟨n1, n2, n3⟩ := zAj (t.cyc_pos mS f.one);obtain ⟨m1, m2, m3⟩ := zAj (t.cyc_pos mR f.two);obtain ⟨u, v⟩ := f.news t hW hH;have t' := f.tiles t hW hH;have eU : mk p d c = mk c p d := zJm c p d;have k1 := Good.takes (F := [S, R]) (M := M) (g.order f.perm);have k2 : Good (takeT (takeT E S) R) M := by
  have a1 := (Good.take (E := E) (T := S) (M := R :: M) (g.order f.perm)).2;exact (Good.take (E := takeT E S) (T := R) (M := M) a1).2
 have n0 := t'.once;have nn : ∀ w ∈ ways (mk c p d), w ∉ M.flatMap ways := fun w hw hm => by
  rw [List.flatMap_cons, List.nodup_append] at n0;exact n0.2.2 w hw w (by rw [List.flatMap_cons]; exact List.mem_append_right _ hm) rfl
 obtain ⟨p1, p2⟩ := Good.put (E := takeT (takeT E S) R) (T := mk c p d) (M := M) k2 u.2 nn;have nn2 : ∀ w ∈ ways (mk d q c), w ∉ (mk c p d :: M).flatMap ways := fun w hw hm => by
  rw [List.flatMap_cons, List.nodup_append] at n0;rw [List.flatMap_cons, List.mem_append] at hm;rcases hm with hm | hm
  ·exact n0.2.2 w hm w (by rw [List.flatMap_cons]; exact List.mem_append_left _ hw) rfl
  ·have := n0.2.1;rw [List.flatMap_cons, List.nodup_append] at this;exact this.2.2 w hw w hm rfl
 obtain ⟨q1, q2⟩ := Good.put (E := putT (takeT (takeT E S) R) (mk c p d)) (T := mk d q c) (M := mk c p d :: M) p2 v.2 nn2;rw [eU];refine ⟨⟨g.get.2 ⟨mS, f.one.way⟩, g.get.2 ⟨mR, f.two.way⟩, (zGe f.one n1 n2 n3).1, (zGe f.two m1 m2 m3).2, ?_, ?_, eU, rfl, g.get_none.2 (t.no_diag mS f.one f.left f.right), g.get_none.2 (t.no_diag mR f.two f.right f.left), ⟨zC5 (vb _ bc), zC5 (vb _ bd)⟩, zB1 (g.val _ mS), zB1 (g.val _ mR), zB1 u.2, zB1 v.2, zBz p1, zBz q1⟩, q2.order (List.Perm.swap _ _ _)⟩
 ·rw [ori_v (vb _ bp) (vb _ bd) (vb _ bc)];have := zAa (det p d c);have e : det p d c = det c p d := zB0 c p d;have := f.left;simp; omega
 ·rw [ori_v (vb _ bd) (vb _ bq) (vb _ bc)];have := zAa (det d q c);have := f.right;simp; omega
theorem bad_go (hh : Hts h) (g : Good E L) (t : Tiles W H L) {p q : Pt} (hb : badD E D p q = true) :
    ∃ S R U V C D', Flips E p q S R U V C D' ∧ ∃ L', Good (flipE E S R U V) L' ∧ Tiles W H L' ∧ Kept (wll D) L L' ∧ volS h L' < volS h L := by
 unfold badD at hb;cases h1 : getE E (p, q) with
 | none => rw [zBr h1] at hb; simp at hb
 | some S =>
  cases h2 : getE E (q, p) with
  | none => rw [zBr h2] at hb; simp at hb
  | some R =>
   rw [zAn h1, zAn h2] at hb;simp only [Bool.true_and, Bool.and_eq_true, decide_eq_true_eq] at hb;obtain ⟨k0, kc⟩ := hb;obtain ⟨mS, wS⟩ := g.get.1 h1;obtain ⟨mR, wR⟩ := g.get.1 h2;obtain ⟨c, cS⟩ := zDb wS;obtain ⟨d, cR⟩ := zDb wR;obtain ⟨m1, m2, m3⟩ := zAj (t.cyc_pos mR cR);rw [(zGe cR m1 m2 m3).2, zIz cS] at kc;obtain ⟨hp, M, f⟩ := t.flip_bad (K := wll D) hW hH hh mS mR cS cR ⟨fun k => k k0, fun k => k (by rw [zIk]; exact k0)⟩ kc;have go := f.go hW hH g t;exact ⟨S, R, _, _, c, d, go.1, _, go.2, f.tiles t hW hH, f.kept t hW hH, f.less t hW hH hp⟩
theorem none_bad (g : Good E L) (t : Tiles W H L) (hb : badsD E D E = []) : Fixed W H (wll D) L := by
 have vb : ∀ q, inBox W H q → vld q = true := fun q hq => by rw [zAx]; unfold inBox at hq; omega
 have main : ∀ S ∈ L, ∀ R ∈ L, ∀ a b c d, Cyc S a b c → Cyc R b a d → ¬ wll D a b → cmpP a b < 0 → circ a b c d ≠ 1 := by
  intro S hS R hR a b c d cS cR hk hc he;have e1 := g.get.2 ⟨hS, cS.way⟩;have e2 := g.get.2 ⟨hR, cR.way⟩;obtain ⟨m1, m2, m3⟩ := zAj (t.cyc_pos hR cR);have k0 : kindD D a b = 0 := Decidable.byContradiction fun k => hk k;have hbad : badD E D a b = true := by
   unfold badD;rw [zAn e1, zAn e2];simp only [Bool.true_and, Bool.and_eq_true, decide_eq_true_eq];exact ⟨k0, by rw [(zGe cR m1 m2 m3).2, zIz cS]; exact he⟩
  have hm : ((a, b), S) ∈ E := zI0 e1;have : (⟨a, b, 1⟩ : Wl) ∈ badsD E D E := by
   unfold badsD;rw [List.mem_filterMap];exact ⟨_, hm, by simp [hbad, hc]⟩
  rw [hb] at this;cases this
 refine ⟨t, fun S hS R hR a b c d cS cR hk he => ?_⟩;have va := vb _ (t.cyc_box hS cS);have vb' := vb _ (t.cyc_box hR cR);have p1 := t.cyc_pos hS cS;have p2 := t.cyc_pos hR cR;have nab := zFq p1;have hs := zAa (key a - key b);have hck := zCi va vb';by_cases hlt : cmpP a b < 0
 ·exact main S hS R hR a b c d cS cR hk hlt he
 ·have hne : key a ≠ key b := fun e => nab (zBo va vb' e);have hgt : cmpP b a < 0 := by
   rw [zCi vb' va];have := zAa (key b - key a);omega
  refine main R hR S hS b a d c cR cS (fun k => hk (by unfold wll at *; rw [zIk]; exact k)) hgt ?_;have vd := vb _ (t.cyc_box hR cR.turn.turn);have vc := vb _ (t.cyc_box hS cS.turn.turn);have o1 : ¬ ori a b c = 0 := by rw [ori_v va vb' vc, zBp]; omega
  have o2 : ¬ ori a b d = 0 := by
   rw [ori_v va vb' vd, zBp];rw [zCy] at p2; omega
  have dc : d ≠ c := by
   rintro rfl;rw [zCy] at p2; omega
  rw [zIy, circ_last o1 o2 dc, he]; rfl
end
end Go.Proofs.YtjkfakaehjmnbaaGreat
namespace Go.Proofs.YtjkfakaehjmnbaaGreat
open Go.RowKit Go.Sort
attribute [local go_sem] rOper rAt rUpon cell_set sg_i64 sg_u64 alloc_cell alloc_frozen
attribute [local go_sem 10000] pt_eql pt_neq tri_eql
attribute [local irreducible] rWalk
theorem cW_ne (x : Wl) : cW x ≠ [] := by simp [cW]
theorem DocRd.turn {w w' : World} {db c n b : Nat} {a0 : Option Addr} {L : List Wl} {E : Es} (S : DocRd w db a0 c n L) (H : HoldsMap eW eT okW w b E) (hg : w.grownBy w' (some b)) : DocRd w' db a0 c n L :=
 ⟨S.box.turn H hg, S.row.turn cW_ne H hg, S.len, S.le, S.nc, S.flat⟩
theorem zJv {E : Es} {L : List Tri3} (g : Good E L) : ∀ e ∈ E, okW e.1 := fun e he => by
 obtain ⟨w, T⟩ := e;obtain ⟨hT, hw⟩ := zJ6.1 (g.perm.mem_iff.1 he);have ok := okT_w (zB1 (g.val T hT));simp only [ways, List.mem_cons, List.not_mem_nil, or_false] at hw;rcases hw with rfl | rfl | rfl
 ·exact ok.1
 ·exact ok.2.1
 ·exact ok.2.2
structure RSt (W H : Int) (D : List Wl) (L : List Tri3) (E1 : Es) (L1 : List Tri3) : Prop where
 good : Good E1 L1
 tiles : Tiles W H L1
 kept : Kept (wll D) L L1
def RepPost (W H : Int) (b : Nat) (D : List Wl) (L : List Tri3) (w : World) (e : Ending) (w' : World) : Prop :=
 e = .returned (.tuple #[]) ∧ ∃ E1 L1, w.grownBy w' (some b) ∧ HoldsMap eW eT okW w' b E1 ∧ RSt W H D L E1 L1 ∧ Fixed W H (wll D) L1
theorem zG1 (mb b db : Nat) (a0 : Option Addr) (c n : Nat) (E : Es) (L : List Tri3) (D : List Wl) (W H : Int) (hW : W < 16777216) (hH : H < 16777216) (hL : L.length ≤ 30000) (g : Good E L) (ti : Tiles W H L) (w : World) (Bm : Box w mb [.map (some b)] 54) (Hm : HoldsMap eW eT okW w b E) (Dw : DocRd w db a0 c n D) :
    Calls Tryz.prog 31 #[.pointer (some ⟨mb, 0, none⟩), .pointer (some ⟨db, 0, none⟩)] w (RepPost W H b D L w) := by
 obtain ⟨h, hh⟩ := hts_ex;have S0 := Lib.hid (show RSt W H D L E L from ⟨g, ti, Kept.refl _ _⟩);have HLL := Lib.hid hL;clear g ti hL
 go_enter Tryz.func31, Tryz.ntmps31
 go_wp2
 go_loopg [4] ((volS h L).toNat + 1) (fun k v wr => ∃ (E1 : Es) (L1 : List Tri3) (ag : Bool), v = .bool ag ∧ HoldsMap eW eT okW wr b E1 ∧ Hid (RSt W H D L E1 L1) ∧ Hid (ag = false → Fixed W H (wll D) L1) ∧ Hid (ag = true → (volS h L1).toNat < k) ∧ w.grownBy wr (some b))
 case atStart => exact ⟨E, L, true, rfl, Hm, S0, Lib.hid (fun e => by cases e), Lib.hid (fun _ => Nat.lt_succ_self _), zC8 _ _⟩
 case round =>
  obtain ⟨E1, L1, ag, rfl, H1, hS, hF, hV, hg⟩ := hrel;cases ag with
  | false =>
   have HFX := Lib.hid (hF.out rfl);clear hF hV;go_wp2;exact bodyPost_end (results_none rfl _ _ _) rfl ⟨rfl, E1, L1, hg, H1, hS.out, HFX.out⟩
  | true =>
   have HV := Lib.hid (hV.out rfl);clear hV;have B1 := Bm.turn Hm hg;have D1 := Dw.turn Hm hg;have hlen : L1.length ≤ 30000 := by rw [hS.out.kept.len]; exact HLL.out
   have hE1 : E1.length ≤ 100000 := by rw [hS.out.good.len]; omega
   have cB := rBad_any mb b db a0 c n E1 D hE1 (zJv hS.out.good) wr B1 H1 D1;have hE2 := Lib.hid hE1;clear hlen hE1 hF;go_wp2_with fail;refine cB.mono ?_;rintro e w2 ⟨a, cap, l, rfl, hl, hr, hb⟩;have hll := Lib.hid (show l.length ≤ 100000 by rw [hl.length_eq]; exact Nat.le_trans (zJ0 E1 D E1) hE2.out);have HLB := Lib.hid hl;have g2 := zAb hg hb;have H2 := H1.ee hb;clear cB hb hl B1 D1 H1 hE2;obtain ⟨m, hm⟩ : ∃ m, l.length = m := ⟨_, rfl⟩;have HM := Lib.hid hm;rw [hm] at hll;rw [hm];clear hm;go_wp2
   go_loopw [4, 6] (fun v4 v6 wi => ∃ (i : Nat) (E2 : Es) (L2 : List Tri3) (ag : Bool), v4 = .bool ag ∧ v6 = .int .i64 i ∧ i ≤ m ∧ HoldsMap eW eT okW wi b E2 ∧ Hid (RSt W H D L E2 L2) ∧ Hid ((i = 0 ∧ ag = false ∧ E2 = E1 ∧ L2 = L1) ∨ (0 < i ∧ ag = true ∧ volS h L2 < volS h L1)) ∧ RowAt cW 5 wi a l ∧ w.grownBy wi (some b)) (fun _ v6 _ => m - (intOf v6).toNat)
   case atStart => exact ⟨0, E1, L1, false, rfl, rfl, Nat.zero_le _, H2, hS, Lib.hid (.inl ⟨rfl, rfl, rfl, rfl⟩), hr, g2⟩
   case round =>
    clear g2 H2 hr;obtain ⟨i, E2, L2, ag, rfl, rfl, hi, H2, hS2, hC, hr, g2⟩ := hrel;have hm1 := hll.out;by_cases hlt : i < m
    ·have hil : i < l.length := by rw [HM.out]; exact hlt
     have B2 := Bm.turn Hm g2;have D2 := Dw.turn Hm g2;obtain ⟨ad, A, ea, eA, hA⟩ := hr.five (j := i) hil;have hmem : l[i] ∈ badsD E1 D E1 := HLB.out.mem_iff.1 (List.getElem_mem hil);generalize l[i] = X at hA hmem
     obtain ⟨XA, XB, XK⟩ := X;have hk2 : okW (XA, XB) := by
      unfold badsD at hmem;rw [List.mem_filterMap] at hmem;obtain ⟨e, he, hx⟩ := hmem;split at hx
      ·simp only [Option.some.injEq, Wl.mk.injEq] at hx;have := zJv hS.out.good e he;rw [← hx.1, ← hx.2.1]; exact this
      ·cases hx
     have HBAD := Lib.hid (show badD E1 D XA XB = true by
      unfold badsD at hmem;rw [List.mem_filterMap] at hmem;obtain ⟨e, he, hx⟩ := hmem;split at hx
      ·rename_i hc
       simp only [Option.some.injEq, Wl.mk.injEq] at hx;simp only [Bool.and_eq_true] at hc;rw [← hx.1, ← hx.2.1]; exact hc.2
      ·cases hx)
     have q0 : (i : Int) < (m : Int) := by omega
     obtain ⟨s0, s1, s2, s3, s4⟩ := hA.cells;have cb : ∀ d os, Calls Tryz.prog 76 #[.pointer (some ⟨mb, 0, none⟩), .pointer (some ⟨db, 0, none⟩), .agg #[.int .i64 XA.x, .int .i64 XA.y], .agg #[.int .i64 XB.x, .int .i64 XB.y]] (grow (redrawn wr d) os) fun e w' => e = .returned (.bool (badD E2 D XA XB)) ∧ Below (grow (redrawn wr d) os).heap.size (grow (redrawn wr d) os) w' := fun d os => zJh mb b db a0 c n E2 D XA XB hk2 _ (B2.ext (below_regrown wr d os) rfl) (H2.ext (below_regrown wr d os) rfl) (D2.ext (below_regrown wr d os) rfl);clear hmem;subst ea;cases hbd : badD E2 D XA XB with
     | false =>
      rw [hbd] at cb;have HNZ := Lib.hid (show 0 < i ∧ ag = true ∧ volS h L2 < volS h L1 by
       rcases hC.out with ⟨_, _, e1, _⟩ | k
       ·rw [e1, HBAD.out] at hbd; cases hbd
       ·exact k)
      clear hC HBAD hA hbd;go_wp2_with fail;refine wrt 25 (by kernel_rfl) (by kernel_rfl) ?_;simp only [tK1, tK0, dP1, dP0];repeat (first | (refine zA0 (Eq.refl false) ?_; simp only [Act.put, sT2, sT1, sT0]) | (refine rWalk_step (fun K hK => ?_); go_simp; first | (refine hK _ ?_; clear hK K) | (apply Exists.intro; refine ⟨fun _ => ?_, hK _ ?_⟩; (first | with_reducible exact toExtD cb _ _); clear hK K)))
      refine rWalk_nil ?_;intro w4 hb;clear s0 s1 s2 s3 s4;have H4 := H2.ee hb;have r4 := hr.ee hb;have g4 := zAb g2 hb;clear hb cb;go_wp2
      go_roundw
      case rel => exact ⟨i + 1, E2, L2, true, by rw [HNZ.out.2.1], by go_num, by omega, H4, hS2, Lib.hid (.inr ⟨by omega, rfl, HNZ.out.2.2⟩), r4, g4⟩
      case measure => simp [intOf]; omega
     | true =>
      rw [hbd] at cb;obtain ⟨S, R, U, V, C, D', fl, L3, g3, t3, k3, v3⟩ := bad_go hW hH hh hS2.out.good hS2.out.tiles hbd;have HS3 := Lib.hid (show RSt W H D L (flipE E2 S R U V) L3 from ⟨g3, t3, hS2.out.kept.trans k3⟩);have HV3 := Lib.hid (show volS h L3 < volS h L1 by
       rcases hC.out with ⟨_, _, _, e2⟩ | ⟨_, _, k⟩
       ·rw [← e2]; exact v3
       ·omega)
      have cf := fun w0 B1 H1 => zJf mb b E2 XA XB hk2 S R U V C D' fl.h0 fl.h1 fl.hC fl.hD fl.o1 fl.o2 fl.hU fl.hV fl.he fl.hf fl.hc fl.hS fl.hR fl.hu fl.hv fl.f1 fl.f2 w0 B1 H1
      change ∀ (w0 : World) B1 H1, Calls _ _ _ _ fun e w' => e = .returned (.int .i64 0) ∧ w0.grownBy w' (some b) ∧ HoldsMap eW eT okW w' b (flipE E2 S R U V) at cf
      clear hC HBAD hA hbd fl g3 t3 k3 v3;generalize flipE E2 S R U V = E3 at *
      go_wp2_with fail;refine wrt 25 (by kernel_rfl) (by kernel_rfl) ?_;simp only [tK1, tK0, dP1, dP0];repeat (first | (refine zA0 (Eq.refl false) ?_; simp only [Act.put, sT2, sT1, sT0]) | (refine rWalk_step (fun K hK => ?_); go_simp; first | (refine hK _ ?_; clear hK K) | (apply Exists.intro; refine ⟨fun _ => ?_, hK _ ?_⟩; (first | with_reducible exact toExtD cb _ _); clear hK K)))
      refine rWalk_nil ?_;intro w4 hb;clear s0 s1 s2 s3 s4;have H4 := H2.ee hb;have r4 := hr.ee hb;have g4 := zAb g2 hb;have B4 := B2.ee hb;clear hb cb;go_wp2_with fail;refine (cf _ B4 H4).mono ?_;rintro e w5 ⟨rfl, hg5, H5⟩;have r5 := r4.turn cW_ne H4 hg5;have g5 := zA9 g4 hg5;clear cf hg5 H4 r4 g4 B4;go_wp2
      go_roundw
      case rel => exact ⟨i + 1, E3, L3, true, rfl, by go_num, by omega, H5, HS3, Lib.hid (.inr ⟨by omega, rfl, HV3.out⟩), r5, g5⟩
      case measure => simp [intOf]; omega
    ·have q0 : decide ((i : Int) < (m : Int)) = false := by simpa using hlt
     have him : i = m := by omega
     have HE := Lib.hid (show (ag = false → Fixed W H (wll D) L2) by
      intro e;rcases hC.out with ⟨e0, _, _, e2⟩ | ⟨_, e1, _⟩
      ·have l0 : l = [] := List.length_eq_zero_iff.1 (by rw [HM.out, ← him, e0]);rw [e2];exact none_bad hW hH hS.out.good hS.out.tiles (List.Perm.eq_nil (by have := HLB.out; rw [l0] at this; exact this.symm))
      ·rw [e] at e1; cases e1)
     have HT := Lib.hid (show (ag = true → (volS h L2).toNat < (volS h L1).toNat) by
      intro e;rcases hC.out with ⟨_, e1, _, _⟩ | ⟨_, _, k⟩
      ·rw [e] at e1; cases e1
      ·have := hS2.out.tiles.vols hW hH hh; omega)
     clear hC;go_wp2
     go_roundg (volS h L1).toNat
     case measure => exact HV.out
     case rel => exact ⟨E2, L2, ag, rfl, H2, hS2, HE, HT, g2⟩
def cutOk (T : Tri3) (p : Pt) : Bool := hasP T p && (!peqI p.x p.y T.A.x T.A.y && (!peqI p.x p.y T.B.x T.B.y && !peqI p.x p.y T.C.x T.C.y))
def cutR (T : Tri3) (p : Pt) : List Tri3 := if cutOk T p = true then cutP p T else []
def cutK (p : Pt) (T : Tri3) : Nat → List Tri3
 | 0 => []
 | k + 1 => cutK p T k ++ part p (crn T k) (crn T (k + 1))
theorem cutK3 (p : Pt) (T : Tri3) : cutK p T 3 = cutP p T := by
 show (([] ++ part p T.A T.B) ++ part p T.B T.C) ++ part p T.C T.A = _;unfold cutP;simp
theorem zGs (p a b : Pt) : (part p a b).length ≤ 1 := by unfold part; split <;> simp
theorem zH3 (p : Pt) (T : Tri3) : ∀ k, (cutK p T k).length ≤ k
 | 0 => by simp [cutK]
 | k + 1 => by
  have := zH3 p T k;have := zGs p (crn T k) (crn T (k + 1));show (cutK p T k ++ _).length ≤ _;rw [List.length_append]; omega
theorem zK1 (p : Pt) (T : Tri3) : (cutP p T).length ≤ 3 := by
 unfold cutP;have := zGs p T.A T.B;have := zGs p T.B T.C;have := zGs p T.C T.A;simp only [List.length_append]; omega
theorem rcut_no0 (T : Tri3) (p : Pt) (h0 : hasP T p = false) (w : World) :
    Calls Tryz.prog 19 #[.agg #[.int .i64 T.A.x, .int .i64 T.A.y, .int .i64 T.B.x, .int .i64 T.B.y, .int .i64 T.C.x, .int .i64 T.C.y], .agg #[.int .i64 p.x, .int .i64 p.y]] w fun e w' => ∃ a cap, e = .returned (.slice a 0 cap) ∧ RowAt cT 6 w' a [] ∧ Below w.heap.size w w' := by
 have cH := zD2 T p;rw [h0] at cH;clear h0
 go_enter Tryz.func19, Tryz.ntmps19
 go_wp2_with fail;refine zA2 fun W1 hW => ?_;obtain ⟨Bt, Ba, hw⟩ := N2 hW;clear hW;refine wp_loop_rounds 2 ?_;try rw [rounds_succ]
 have F_ta := J2 Bt.f Ba.f;go_wp2_with fail;refine (cH _).mono ?_;rintro e w2 ⟨rfl, hb⟩;clear F_ta;obtain ⟨Bt, Ba, hw, F_ta⟩ := X2 Bt Ba hw hb;clear hb;go_wp2_with fail;refine (zC6 none 0 0 [] (Lib.hid rfl) (by omega) (by omega) _ (fun j x hx => by cases hx)).mono ?_;rintro e w9 ⟨a, cap, rfl, hr, hb⟩;have e0 : srt cmpT ([] : List Tri3) = [] := List.length_eq_zero_iff.1 (by rw [(zAo _).length_eq]; rfl);rw [e0] at hr;go_wp2
 go_ret
 exact ⟨a, cap, rfl, hr, (upB hw hb)⟩
theorem rcut_no1 (T : Tri3) (p : Pt) (h0 : hasP T p = true) (h1 : peqI p.x p.y T.A.x T.A.y = true) (w : World) :
    Calls Tryz.prog 19 #[.agg #[.int .i64 T.A.x, .int .i64 T.A.y, .int .i64 T.B.x, .int .i64 T.B.y, .int .i64 T.C.x, .int .i64 T.C.y], .agg #[.int .i64 p.x, .int .i64 p.y]] w fun e w' => ∃ a cap, e = .returned (.slice a 0 cap) ∧ RowAt cT 6 w' a [] ∧ Below w.heap.size w w' := by
 have cH := zD2 T p;rw [h0] at cH;clear h0
 go_enter Tryz.func19, Tryz.ntmps19
 go_wp2_with fail;refine zA2 fun W1 hW => ?_;obtain ⟨Bt, Ba, hw⟩ := N2 hW;clear hW;refine wp_loop_rounds 2 ?_;try rw [rounds_succ]
 have F_ta := J2 Bt.f Ba.f;go_wp2_with fail;refine (cH _).mono ?_;rintro e w2 ⟨rfl, hb⟩;clear F_ta;obtain ⟨Bt, Ba, hw, F_ta⟩ := X2 Bt Ba hw hb;clear hb;go_wp2_with fail;refine (zC6 none 0 0 [] (Lib.hid rfl) (by omega) (by omega) _ (fun j x hx => by cases hx)).mono ?_;rintro e w9 ⟨a, cap, rfl, hr, hb⟩;have e0 : srt cmpT ([] : List Tri3) = [] := List.length_eq_zero_iff.1 (by rw [(zAo _).length_eq]; rfl);rw [e0] at hr;go_wp2
 go_ret
 exact ⟨a, cap, rfl, hr, (upB hw hb)⟩
theorem rcut_no2 (T : Tri3) (p : Pt) (h0 : hasP T p = true) (h1 : peqI p.x p.y T.A.x T.A.y = false) (h2 : peqI p.x p.y T.B.x T.B.y = true) (w : World) :
    Calls Tryz.prog 19 #[.agg #[.int .i64 T.A.x, .int .i64 T.A.y, .int .i64 T.B.x, .int .i64 T.B.y, .int .i64 T.C.x, .int .i64 T.C.y], .agg #[.int .i64 p.x, .int .i64 p.y]] w fun e w' => ∃ a cap, e = .returned (.slice a 0 cap) ∧ RowAt cT 6 w' a [] ∧ Below w.heap.size w w' := by
 have cH := zD2 T p;rw [h0] at cH;clear h0
 go_enter Tryz.func19, Tryz.ntmps19
 go_wp2_with fail;refine zA2 fun W1 hW => ?_;obtain ⟨Bt, Ba, hw⟩ := N2 hW;clear hW;refine wp_loop_rounds 2 ?_;try rw [rounds_succ]
 have F_ta := J2 Bt.f Ba.f;go_wp2_with fail;refine (cH _).mono ?_;rintro e w2 ⟨rfl, hb⟩;clear F_ta;obtain ⟨Bt, Ba, hw, F_ta⟩ := X2 Bt Ba hw hb;clear hb;go_wp2_with fail;refine (zC6 none 0 0 [] (Lib.hid rfl) (by omega) (by omega) _ (fun j x hx => by cases hx)).mono ?_;rintro e w9 ⟨a, cap, rfl, hr, hb⟩;have e0 : srt cmpT ([] : List Tri3) = [] := List.length_eq_zero_iff.1 (by rw [(zAo _).length_eq]; rfl);rw [e0] at hr;go_wp2
 go_ret
 exact ⟨a, cap, rfl, hr, (upB hw hb)⟩
theorem rcut_no3 (T : Tri3) (p : Pt) (h0 : hasP T p = true) (h1 : peqI p.x p.y T.A.x T.A.y = false) (h2 : peqI p.x p.y T.B.x T.B.y = false) (h3 : peqI p.x p.y T.C.x T.C.y = true) (w : World) :
    Calls Tryz.prog 19 #[.agg #[.int .i64 T.A.x, .int .i64 T.A.y, .int .i64 T.B.x, .int .i64 T.B.y, .int .i64 T.C.x, .int .i64 T.C.y], .agg #[.int .i64 p.x, .int .i64 p.y]] w fun e w' => ∃ a cap, e = .returned (.slice a 0 cap) ∧ RowAt cT 6 w' a [] ∧ Below w.heap.size w w' := by
 have cH := zD2 T p;rw [h0] at cH;clear h0
 go_enter Tryz.func19, Tryz.ntmps19
 go_wp2_with fail;refine zA2 fun W1 hW => ?_;obtain ⟨Bt, Ba, hw⟩ := N2 hW;clear hW;refine wp_loop_rounds 2 ?_;try rw [rounds_succ]
 have F_ta := J2 Bt.f Ba.f;go_wp2_with fail;refine (cH _).mono ?_;rintro e w2 ⟨rfl, hb⟩;clear F_ta;obtain ⟨Bt, Ba, hw, F_ta⟩ := X2 Bt Ba hw hb;clear hb;go_wp2_with fail;refine (zC6 none 0 0 [] (Lib.hid rfl) (by omega) (by omega) _ (fun j x hx => by cases hx)).mono ?_;rintro e w9 ⟨a, cap, rfl, hr, hb⟩;have e0 : srt cmpT ([] : List Tri3) = [] := List.length_eq_zero_iff.1 (by rw [(zAo _).length_eq]; rfl);rw [e0] at hr;go_wp2
 go_ret
 exact ⟨a, cap, rfl, hr, (upB hw hb)⟩
theorem rcut_yes (T : Tri3) (p : Pt) (h0 : hasP T p = true) (h1 : peqI p.x p.y T.A.x T.A.y = false) (h2 : peqI p.x p.y T.B.x T.B.y = false) (h3 : peqI p.x p.y T.C.x T.C.y = false) (w : World) :
    Calls Tryz.prog 19 #[.agg #[.int .i64 T.A.x, .int .i64 T.A.y, .int .i64 T.B.x, .int .i64 T.B.y, .int .i64 T.C.x, .int .i64 T.C.y], .agg #[.int .i64 p.x, .int .i64 p.y]] w fun e w' => ∃ a cap, e = .returned (.slice a (srt cmpT (cutP p T)).length cap) ∧ (srt cmpT (cutP p T)).length ≤ cap ∧ RowAt cT 6 w' a (srt cmpT (cutP p T)) ∧ Below w.heap.size w w' := by
 have cH := zD2 T p;rw [h0] at cH;clear h0
 go_enter Tryz.func19, Tryz.ntmps19
 go_wp2_with fail;refine zA2 fun W1 hW => ?_;obtain ⟨Bt, Ba, hw⟩ := N2 hW;clear hW
 go_loopw [5, 6] (fun v i wr => ∃ (k : Nat) (j : Int), k ≤ 3 ∧ i = .int .i64 j ∧ Hid (j = k) ∧ wr.ownsRow (w.heap.size + 2) 43 6 v (cutK p T k).length ((cutK p T k).flatMap cT) ∧ Box wr (w.heap.size) [.int .i64 T.A.x, .int .i64 T.A.y, .int .i64 T.B.x, .int .i64 T.B.y, .int .i64 T.C.x, .int .i64 T.C.y] 43 ∧ Box wr (w.heap.size + 1) [.int .i64 p.x, .int .i64 p.y] 30 ∧ Below w.heap.size w wr) (fun _ i _ => 3 - (intOf i).toNat)
 case atStart => exact ⟨0, 0, by omega, rfl, Lib.hid rfl, World.ownsRow_nil _ _ _ _, Bt, Ba, hw⟩
 case round =>
  clear Bt Ba hw;obtain ⟨k, j, hk, rfl, hj, hown, Bt, Ba, hw⟩ := hrel;have hk' : k = 0 ∨ k = 1 ∨ k = 2 ∨ k = 3 := by omega
  rcases hk' with rfl | rfl | rfl | rfl
  ·have hj : j = 0 := by simpa using hj.out
   subst hj;have hq1 : IntKind.i64.wrap (0 + 1) = 1 := by decide
   have hq2 : IntKind.i64.wrap 1 = 1 := by decide
   have c1 := zAm T 0;have c2 := zAm T 1;have c3 := zB9 (crn T 0) (crn T 1) p;have hst : cutK p T (0 + 1) = cutK p T 0 ++ part p (crn T 0) (crn T 1) := rfl;have hle := zH3 p T 0;have HST := Lib.hid hst;have HLE := Lib.hid hle;clear hst hle;generalize eu : crn T 0 = u at *
   generalize ev : crn T 1 = v at *
   clear eu ev;obtain ⟨L1, hL1⟩ : ∃ L1, cutK p T 1 = L1 := ⟨_, rfl⟩;have HL1 := Lib.hid hL1;rw [show cutK p T (0 + 1) = L1 from hL1] at HST;clear hL1;generalize cutK p T 0 = L0 at *
   have Ft := Bt.f;have Fa := Ba.f;go_wp2_with fail;refine (cH _).mono ?_;rintro e w21 ⟨rfl, hb⟩;clear Ft Fa;replace Bt := Bt.ee hb;replace Ba := Ba.ee hb;replace hown := zDd hown hb;replace hw := upB hw hb;clear hb;by_cases h0 : ori u v p = 0
   ·rw [show (!decide (ori u v p = 0)) = false by simp [h0]] at c3;have HL := Lib.hid (show L1 = L0 by rw [HST.out]; unfold part; rw [if_pos h0]; simp);generalize mk u v p = X at *
    clear h0 HST;have Ft := Bt.f;have Fa := Ba.f;go_wp2_with fail;have g_ta := J2 Bt.cells Ba.cells;refine zA3 12 7 46 [.int .i64 X.A.x, .int .i64 X.A.y, .int .i64 X.B.x, .int .i64 X.B.y, .int .i64 X.C.x, .int .i64 X.C.y] (zs := [.int .i64 0, .int .i64 0, .int .i64 0, .int .i64 0, .int .i64 0, .int .i64 0]) (eff := eff6 (.int .i64 X.A.x) (.int .i64 X.A.y) (.int .i64 X.B.x) (.int .i64 X.B.y) (.int .i64 X.C.x) (.int .i64 X.C.y)) zAc rfl rfl rfl rfl rfl rfl rfl (by simp) (fun ρ W => by simp [execOp, go_sem]; rfl) (by kernel_rfl) (by as_aux_lemma => kernel_rfl) (C := fun w' => ∃ p : Regrown, w' = grow (redrawn w21 p.d) p.os) rgB ?_ (fun ρ W b e1 e2 hB => by obtain ⟨x, y, _, _⟩ := hB.f; simp [execOp, go_sem, e1, e2, x, y, eff6]);simp only [tK1, tK0, dP1, dP0];repeat (first | (refine zA0 (Eq.refl false) ?_; simp only [Act.put, sT2, sT1, sT0]) | (refine rWalk_step (fun K hK => ?_); go_simp; first | (refine hK _ ?_; clear hK K) | (apply Exists.intro; refine ⟨fun _ => ?_, hK _ ?_⟩; (first | with_reducible exact toExt c1 _ | with_reducible exact toExt c2 _ | with_reducible exact toExt c3 _); clear hK K)))
    refine rWalk_nil ⟨rfl, ?_⟩;intro w41 bkz hb h1b h2b Bz;have ltz := Bt.lt;have laz := Ba.lt;have hw0z := hw.size;clear g_ta;clear Ft Fa;obtain ⟨Bt, Ba, hw, -⟩ := X2 Bt Ba hw hb;have fz := h1b;have hwz : w.heap.size ≤ w21.heap.size := hw0z;replace hown := zDd hown hb;clear hb h1b h2b hw0z;simp only [Act.put];have Ft := Bt.f;have Fa := Ba.f;have Fz := Bz.f;go_wp2
    go_roundw
    case rel => exact ⟨1, 1, by omega, by first | rfl | go_num, Lib.hid rfl, by rw [HL1.out, HL.out]; exact hown, Bt, Ba, hw⟩
    case measure => simp [intOf]
   ·rw [show (!decide (ori u v p = 0)) = true by simp [h0]] at c3;have HL := Lib.hid (show L1 = L0 ++ [mk u v p] by rw [HST.out]; unfold part; rw [if_neg h0]);generalize mk u v p = X at *
    clear h0 HST;have Ft := Bt.f;have Fa := Ba.f;go_wp2_with fail;have g_ta := J2 Bt.cells Ba.cells;refine zA3 12 7 46 [.int .i64 X.A.x, .int .i64 X.A.y, .int .i64 X.B.x, .int .i64 X.B.y, .int .i64 X.C.x, .int .i64 X.C.y] (zs := [.int .i64 0, .int .i64 0, .int .i64 0, .int .i64 0, .int .i64 0, .int .i64 0]) (eff := eff6 (.int .i64 X.A.x) (.int .i64 X.A.y) (.int .i64 X.B.x) (.int .i64 X.B.y) (.int .i64 X.C.x) (.int .i64 X.C.y)) zAc rfl rfl rfl rfl rfl rfl rfl (by simp) (fun ρ W => by simp [execOp, go_sem]; rfl) (by kernel_rfl) (by as_aux_lemma => kernel_rfl) (C := fun w' => ∃ p : Regrown, w' = grow (redrawn w21 p.d) p.os) rgB ?_ (fun ρ W b e1 e2 hB => by obtain ⟨x, y, _, _⟩ := hB.f; simp [execOp, go_sem, e1, e2, x, y, eff6]);simp only [tK1, tK0, dP1, dP0];repeat (first | (refine zA0 (Eq.refl false) ?_; simp only [Act.put, sT2, sT1, sT0]) | (refine rWalk_step (fun K hK => ?_); go_simp; first | (refine hK _ ?_; clear hK K) | (apply Exists.intro; refine ⟨fun _ => ?_, hK _ ?_⟩; (first | with_reducible exact toExt c1 _ | with_reducible exact toExt c2 _ | with_reducible exact toExt c3 _); clear hK K)))
    refine rWalk_nil ⟨rfl, ?_⟩;intro w41 bkz hb h1b h2b Bz;have ltz := Bt.lt;have laz := Ba.lt;have hw0z := hw.size;clear g_ta;clear Ft Fa;obtain ⟨Bt, Ba, hw, -⟩ := X2 Bt Ba hw hb;have fz := h1b;have hwz : w.heap.size ≤ w21.heap.size := hw0z;replace hown := zDd hown hb;clear hb h1b h2b hw0z;simp only [Act.put];have Ft := Bt.f;have Fa := Ba.f;have Fz := Bz.f;have HB := Lib.hid hw.size;go_wp2_with (at_builtin; refine zB3 rfl _ _ rfl (w.heap.size + 2) _ L0 rfl (hown.alloc _) (w41.heap.size) X rfl (Box.new (by simp)) (by have := HLE.out; omega) (by have := HB.out; have := Ba.lt; simp; omega) ?_; intro w4 v4 hown4 hg4)
    have hlt := fun k hk => ((hown.alloc (.cells (cT X).toArray 43)).lt k hk).1;have Bt4 := (Bt.old (.cells (cT X).toArray 43)).grown2 hg4 (fun k hk => by have := hlt k hk; omega);have Ba4 := (Ba.old (.cells (cT X).toArray 43)).grown2 hg4 (fun k hk => by have := hlt k hk; omega);have hw4 := (hw.alloc hw.size (.cells (cT X).toArray 43)).grown hg4 (by have := hw.size; simp; omega) (fun k hk => by have := hlt k hk; omega)
    go_roundw
    case rel => exact ⟨1, 1, by omega, by first | rfl | go_num, Lib.hid rfl, by rw [HL1.out, HL.out]; exact hown4, Bt4, Ba4, hw4⟩
    case measure => simp [intOf]
  ·have hj : j = 1 := by simpa using hj.out
   subst hj;have hq1 : IntKind.i64.wrap (1 + 1) = 2 := by decide
   have hq2 : IntKind.i64.wrap 2 = 2 := by decide
   have c1 := zAm T 1;have c2 := zAm T 2;have c3 := zB9 (crn T 1) (crn T 2) p;have hst : cutK p T (1 + 1) = cutK p T 1 ++ part p (crn T 1) (crn T 2) := rfl;have hle := zH3 p T 1;have HST := Lib.hid hst;have HLE := Lib.hid hle;clear hst hle;generalize eu : crn T 1 = u at *
   generalize ev : crn T 2 = v at *
   clear eu ev;obtain ⟨L1, hL1⟩ : ∃ L1, cutK p T 2 = L1 := ⟨_, rfl⟩;have HL1 := Lib.hid hL1;rw [show cutK p T (1 + 1) = L1 from hL1] at HST;clear hL1;generalize cutK p T 1 = L0 at *
   have Ft := Bt.f;have Fa := Ba.f;go_wp2_with fail;refine (cH _).mono ?_;rintro e w21 ⟨rfl, hb⟩;clear Ft Fa;replace Bt := Bt.ee hb;replace Ba := Ba.ee hb;replace hown := zDd hown hb;replace hw := upB hw hb;clear hb;by_cases h0 : ori u v p = 0
   ·rw [show (!decide (ori u v p = 0)) = false by simp [h0]] at c3;have HL := Lib.hid (show L1 = L0 by rw [HST.out]; unfold part; rw [if_pos h0]; simp);generalize mk u v p = X at *
    clear h0 HST;have Ft := Bt.f;have Fa := Ba.f;go_wp2_with fail;have g_ta := J2 Bt.cells Ba.cells;refine zA3 12 7 46 [.int .i64 X.A.x, .int .i64 X.A.y, .int .i64 X.B.x, .int .i64 X.B.y, .int .i64 X.C.x, .int .i64 X.C.y] (zs := [.int .i64 0, .int .i64 0, .int .i64 0, .int .i64 0, .int .i64 0, .int .i64 0]) (eff := eff6 (.int .i64 X.A.x) (.int .i64 X.A.y) (.int .i64 X.B.x) (.int .i64 X.B.y) (.int .i64 X.C.x) (.int .i64 X.C.y)) zAc rfl rfl rfl rfl rfl rfl rfl (by simp) (fun ρ W => by simp [execOp, go_sem]; rfl) (by kernel_rfl) (by as_aux_lemma => kernel_rfl) (C := fun w' => ∃ p : Regrown, w' = grow (redrawn w21 p.d) p.os) rgB ?_ (fun ρ W b e1 e2 hB => by obtain ⟨x, y, _, _⟩ := hB.f; simp [execOp, go_sem, e1, e2, x, y, eff6]);simp only [tK1, tK0, dP1, dP0];repeat (first | (refine zA0 (Eq.refl false) ?_; simp only [Act.put, sT2, sT1, sT0]) | (refine rWalk_step (fun K hK => ?_); go_simp; first | (refine hK _ ?_; clear hK K) | (apply Exists.intro; refine ⟨fun _ => ?_, hK _ ?_⟩; (first | with_reducible exact toExt c1 _ | with_reducible exact toExt c2 _ | with_reducible exact toExt c3 _); clear hK K)))
    refine rWalk_nil ⟨rfl, ?_⟩;intro w41 bkz hb h1b h2b Bz;have ltz := Bt.lt;have laz := Ba.lt;have hw0z := hw.size;clear g_ta;clear Ft Fa;obtain ⟨Bt, Ba, hw, -⟩ := X2 Bt Ba hw hb;have fz := h1b;have hwz : w.heap.size ≤ w21.heap.size := hw0z;replace hown := zDd hown hb;clear hb h1b h2b hw0z;simp only [Act.put];have Ft := Bt.f;have Fa := Ba.f;have Fz := Bz.f;go_wp2
    go_roundw
    case rel => exact ⟨2, 2, by omega, by first | rfl | go_num, Lib.hid rfl, by rw [HL1.out, HL.out]; exact hown, Bt, Ba, hw⟩
    case measure => simp [intOf]
   ·rw [show (!decide (ori u v p = 0)) = true by simp [h0]] at c3;have HL := Lib.hid (show L1 = L0 ++ [mk u v p] by rw [HST.out]; unfold part; rw [if_neg h0]);generalize mk u v p = X at *
    clear h0 HST;have Ft := Bt.f;have Fa := Ba.f;go_wp2_with fail;have g_ta := J2 Bt.cells Ba.cells;refine zA3 12 7 46 [.int .i64 X.A.x, .int .i64 X.A.y, .int .i64 X.B.x, .int .i64 X.B.y, .int .i64 X.C.x, .int .i64 X.C.y] (zs := [.int .i64 0, .int .i64 0, .int .i64 0, .int .i64 0, .int .i64 0, .int .i64 0]) (eff := eff6 (.int .i64 X.A.x) (.int .i64 X.A.y) (.int .i64 X.B.x) (.int .i64 X.B.y) (.int .i64 X.C.x) (.int .i64 X.C.y)) zAc rfl rfl rfl rfl rfl rfl rfl (by simp) (fun ρ W => by simp [execOp, go_sem]; rfl) (by kernel_rfl) (by as_aux_lemma => kernel_rfl) (C := fun w' => ∃ p : Regrown, w' = grow (redrawn w21 p.d) p.os) rgB ?_ (fun ρ W b e1 e2 hB => by obtain ⟨x, y, _, _⟩ := hB.f; simp [execOp, go_sem, e1, e2, x, y, eff6]);simp only [tK1, tK0, dP1, dP0];repeat (first | (refine zA0 (Eq.refl false) ?_; simp only [Act.put, sT2, sT1, sT0]) | (refine rWalk_step (fun K hK => ?_); go_simp; first | (refine hK _ ?_; clear hK K) | (apply Exists.intro; refine ⟨fun _ => ?_, hK _ ?_⟩; (first | with_reducible exact toExt c1 _ | with_reducible exact toExt c2 _ | with_reducible exact toExt c3 _); clear hK K)))
    refine rWalk_nil ⟨rfl, ?_⟩;intro w41 bkz hb h1b h2b Bz;have ltz := Bt.lt;have laz := Ba.lt;have hw0z := hw.size;clear g_ta;clear Ft Fa;obtain ⟨Bt, Ba, hw, -⟩ := X2 Bt Ba hw hb;have fz := h1b;have hwz : w.heap.size ≤ w21.heap.size := hw0z;replace hown := zDd hown hb;clear hb h1b h2b hw0z;simp only [Act.put];have Ft := Bt.f;have Fa := Ba.f;have Fz := Bz.f;have HB := Lib.hid hw.size;go_wp2_with (at_builtin; refine zB3 rfl _ _ rfl (w.heap.size + 2) _ L0 rfl (hown.alloc _) (w41.heap.size) X rfl (Box.new (by simp)) (by have := HLE.out; omega) (by have := HB.out; have := Ba.lt; simp; omega) ?_; intro w4 v4 hown4 hg4)
    have hlt := fun k hk => ((hown.alloc (.cells (cT X).toArray 43)).lt k hk).1;have Bt4 := (Bt.old (.cells (cT X).toArray 43)).grown2 hg4 (fun k hk => by have := hlt k hk; omega);have Ba4 := (Ba.old (.cells (cT X).toArray 43)).grown2 hg4 (fun k hk => by have := hlt k hk; omega);have hw4 := (hw.alloc hw.size (.cells (cT X).toArray 43)).grown hg4 (by have := hw.size; simp; omega) (fun k hk => by have := hlt k hk; omega)
    go_roundw
    case rel => exact ⟨2, 2, by omega, by first | rfl | go_num, Lib.hid rfl, by rw [HL1.out, HL.out]; exact hown4, Bt4, Ba4, hw4⟩
    case measure => simp [intOf]
  ·have hj : j = 2 := by simpa using hj.out
   subst hj;have hq1 : IntKind.i64.wrap (2 + 1) = 3 := by decide
   have hq2 : IntKind.i64.wrap 3 = 3 := by decide
   have c1 := zAm T 2;have c2 := zAm T 3;have c3 := zB9 (crn T 2) (crn T 3) p;have hst : cutK p T (2 + 1) = cutK p T 2 ++ part p (crn T 2) (crn T 3) := rfl;have hle := zH3 p T 2;have HST := Lib.hid hst;have HLE := Lib.hid hle;clear hst hle;generalize eu : crn T 2 = u at *
   generalize ev : crn T 3 = v at *
   clear eu ev;obtain ⟨L1, hL1⟩ : ∃ L1, cutK p T 3 = L1 := ⟨_, rfl⟩;have HL1 := Lib.hid hL1;rw [show cutK p T (2 + 1) = L1 from hL1] at HST;clear hL1;generalize cutK p T 2 = L0 at *
   have Ft := Bt.f;have Fa := Ba.f;go_wp2_with fail;refine (cH _).mono ?_;rintro e w21 ⟨rfl, hb⟩;clear Ft Fa;replace Bt := Bt.ee hb;replace Ba := Ba.ee hb;replace hown := zDd hown hb;replace hw := upB hw hb;clear hb;by_cases h0 : ori u v p = 0
   ·rw [show (!decide (ori u v p = 0)) = false by simp [h0]] at c3;have HL := Lib.hid (show L1 = L0 by rw [HST.out]; unfold part; rw [if_pos h0]; simp);generalize mk u v p = X at *
    clear h0 HST;have Ft := Bt.f;have Fa := Ba.f;go_wp2_with fail;have g_ta := J2 Bt.cells Ba.cells;refine zA3 12 7 46 [.int .i64 X.A.x, .int .i64 X.A.y, .int .i64 X.B.x, .int .i64 X.B.y, .int .i64 X.C.x, .int .i64 X.C.y] (zs := [.int .i64 0, .int .i64 0, .int .i64 0, .int .i64 0, .int .i64 0, .int .i64 0]) (eff := eff6 (.int .i64 X.A.x) (.int .i64 X.A.y) (.int .i64 X.B.x) (.int .i64 X.B.y) (.int .i64 X.C.x) (.int .i64 X.C.y)) zAc rfl rfl rfl rfl rfl rfl rfl (by simp) (fun ρ W => by simp [execOp, go_sem]; rfl) (by kernel_rfl) (by as_aux_lemma => kernel_rfl) (C := fun w' => ∃ p : Regrown, w' = grow (redrawn w21 p.d) p.os) rgB ?_ (fun ρ W b e1 e2 hB => by obtain ⟨x, y, _, _⟩ := hB.f; simp [execOp, go_sem, e1, e2, x, y, eff6]);simp only [tK1, tK0, dP1, dP0];repeat (first | (refine zA0 (Eq.refl false) ?_; simp only [Act.put, sT2, sT1, sT0]) | (refine rWalk_step (fun K hK => ?_); go_simp; first | (refine hK _ ?_; clear hK K) | (apply Exists.intro; refine ⟨fun _ => ?_, hK _ ?_⟩; (first | with_reducible exact toExt c1 _ | with_reducible exact toExt c2 _ | with_reducible exact toExt c3 _); clear hK K)))
    refine rWalk_nil ⟨rfl, ?_⟩;intro w41 bkz hb h1b h2b Bz;have ltz := Bt.lt;have laz := Ba.lt;have hw0z := hw.size;clear g_ta;clear Ft Fa;obtain ⟨Bt, Ba, hw, -⟩ := X2 Bt Ba hw hb;have fz := h1b;have hwz : w.heap.size ≤ w21.heap.size := hw0z;replace hown := zDd hown hb;clear hb h1b h2b hw0z;simp only [Act.put];have Ft := Bt.f;have Fa := Ba.f;have Fz := Bz.f;go_wp2
    go_roundw
    case rel => exact ⟨3, 3, by omega, by first | rfl | go_num, Lib.hid rfl, by rw [HL1.out, HL.out]; exact hown, Bt, Ba, hw⟩
    case measure => simp [intOf]
   ·rw [show (!decide (ori u v p = 0)) = true by simp [h0]] at c3;have HL := Lib.hid (show L1 = L0 ++ [mk u v p] by rw [HST.out]; unfold part; rw [if_neg h0]);generalize mk u v p = X at *
    clear h0 HST;have Ft := Bt.f;have Fa := Ba.f;go_wp2_with fail;have g_ta := J2 Bt.cells Ba.cells;refine zA3 12 7 46 [.int .i64 X.A.x, .int .i64 X.A.y, .int .i64 X.B.x, .int .i64 X.B.y, .int .i64 X.C.x, .int .i64 X.C.y] (zs := [.int .i64 0, .int .i64 0, .int .i64 0, .int .i64 0, .int .i64 0, .int .i64 0]) (eff := eff6 (.int .i64 X.A.x) (.int .i64 X.A.y) (.int .i64 X.B.x) (.int .i64 X.B.y) (.int .i64 X.C.x) (.int .i64 X.C.y)) zAc rfl rfl rfl rfl rfl rfl rfl (by simp) (fun ρ W => by simp [execOp, go_sem]; rfl) (by kernel_rfl) (by as_aux_lemma => kernel_rfl) (C := fun w' => ∃ p : Regrown, w' = grow (redrawn w21 p.d) p.os) rgB ?_ (fun ρ W b e1 e2 hB => by obtain ⟨x, y, _, _⟩ := hB.f; simp [execOp, go_sem, e1, e2, x, y, eff6]);simp only [tK1, tK0, dP1, dP0];repeat (first | (refine zA0 (Eq.refl false) ?_; simp only [Act.put, sT2, sT1, sT0]) | (refine rWalk_step (fun K hK => ?_); go_simp; first | (refine hK _ ?_; clear hK K) | (apply Exists.intro; refine ⟨fun _ => ?_, hK _ ?_⟩; (first | with_reducible exact toExt c1 _ | with_reducible exact toExt c2 _ | with_reducible exact toExt c3 _); clear hK K)))
    refine rWalk_nil ⟨rfl, ?_⟩;intro w41 bkz hb h1b h2b Bz;have ltz := Bt.lt;have laz := Ba.lt;have hw0z := hw.size;clear g_ta;clear Ft Fa;obtain ⟨Bt, Ba, hw, -⟩ := X2 Bt Ba hw hb;have fz := h1b;have hwz : w.heap.size ≤ w21.heap.size := hw0z;replace hown := zDd hown hb;clear hb h1b h2b hw0z;simp only [Act.put];have Ft := Bt.f;have Fa := Ba.f;have Fz := Bz.f;have HB := Lib.hid hw.size;go_wp2_with (at_builtin; refine zB3 rfl _ _ rfl (w.heap.size + 2) _ L0 rfl (hown.alloc _) (w41.heap.size) X rfl (Box.new (by simp)) (by have := HLE.out; omega) (by have := HB.out; have := Ba.lt; simp; omega) ?_; intro w4 v4 hown4 hg4)
    have hlt := fun k hk => ((hown.alloc (.cells (cT X).toArray 43)).lt k hk).1;have Bt4 := (Bt.old (.cells (cT X).toArray 43)).grown2 hg4 (fun k hk => by have := hlt k hk; omega);have Ba4 := (Ba.old (.cells (cT X).toArray 43)).grown2 hg4 (fun k hk => by have := hlt k hk; omega);have hw4 := (hw.alloc hw.size (.cells (cT X).toArray 43)).grown hg4 (by have := hw.size; simp; omega) (fun k hk => by have := hlt k hk; omega)
    go_roundw
    case rel => exact ⟨3, 3, by omega, by first | rfl | go_num, Lib.hid rfl, by rw [HL1.out, HL.out]; exact hown4, Bt4, Ba4, hw4⟩
    case measure => simp [intOf]
  ·have hj : j = 3 := by simpa using hj.out
   subst hj;rw [cutK3 p T] at hown;obtain ⟨a1, c1, rfl, hc1, hr1⟩ := zAr zFs hown;have hle := zK1 p T;have hlen := Lib.hid (show (cutP p T).length = (srt cmpT (cutP p T)).length from (zAo _).length_eq.symm);have Ft := Bt.f;have Fa := Ba.f;go_wp2_with fail;refine (zF7 _ _ _ _ (Lib.hid rfl) (by omega) hc1 _ hr1).mono ?_;rintro e w9 ⟨a, cap, rfl, hcap, hr, hb⟩;go_wp2
   go_ret
   exact ⟨a, cap, by rw [hlen.out]; rfl, by rw [← hlen.out]; exact hcap, hr, (upB hw hb)⟩
theorem zJg (T : Tri3) (p : Pt) (w : World) :
    Calls Tryz.prog 19 #[.agg #[.int .i64 T.A.x, .int .i64 T.A.y, .int .i64 T.B.x, .int .i64 T.B.y, .int .i64 T.C.x, .int .i64 T.C.y], .agg #[.int .i64 p.x, .int .i64 p.y]] w fun e w' => ∃ a cap, e = .returned (.slice a (srt cmpT (cutR T p)).length cap) ∧ (srt cmpT (cutR T p)).length ≤ cap ∧ RowAt cT 6 w' a (srt cmpT (cutR T p)) ∧ Below w.heap.size w w' := by
 unfold cutR cutOk;have z : srt cmpT ([] : List Tri3) = [] := List.length_eq_zero_iff.1 (by rw [(zAo _).length_eq]; rfl);cases h0 : hasP T p with
 | false => simpa [z] using rcut_no0 T p h0 w
 | true =>
  cases h1 : peqI p.x p.y T.A.x T.A.y with
  | true => simpa [z] using rcut_no1 T p h0 h1 w
  | false =>
   cases h2 : peqI p.x p.y T.B.x T.B.y with
   | true => simpa [z] using rcut_no2 T p h0 h1 h2 w
   | false =>
    cases h3 : peqI p.x p.y T.C.x T.C.y with
    | true => simpa [z] using rcut_no3 T p h0 h1 h2 h3 w
    | false => simpa using rcut_yes T p h0 h1 h2 h3 w
theorem rcut_any (T : Tri3) (p : Pt) (w : World) :
    Calls Tryz.prog 19 #[.agg #[.int .i64 T.A.x, .int .i64 T.A.y, .int .i64 T.B.x, .int .i64 T.B.y, .int .i64 T.C.x, .int .i64 T.C.y], .agg #[.int .i64 p.x, .int .i64 p.y]] w fun e w' => ∃ a cap, e = .returned (.slice a (srt cmpT (cutR T p)).length cap) ∧ RowAt cT 6 w' a (srt cmpT (cutR T p)) ∧ Below w.heap.size w w' := (zJg T p w).mono fun _ _ ⟨a, cap, h1, _, h3, h4⟩ => ⟨a, cap, h1, h3, h4⟩
def starE (p : Pt) (E : Es) : List Tri3 := (E.filter fun e => decide (e.1.1 = p)).map (·.2)
theorem zH9 {p : Pt} {E F : Es} (h : E.Perm F) : (starE p E).Perm (starE p F) := (h.filter _).map _
theorem zDe (p : Pt) (E F : Es) : starE p (E ++ F) = starE p E ++ starE p F := by unfold starE; rw [List.filter_append, List.map_append]
theorem zI2 (p : Pt) (E : Es) : (starE p E).length ≤ E.length := by unfold starE; rw [List.length_map]; exact List.length_filter_le _ _
theorem starE_yes {p : Pt} {e : (Pt × Pt) × Tri3} (h : e.1.1 = p) : starE p [e] = [e.2] := by simp [starE, h]
theorem starE_no {p : Pt} {e : (Pt × Pt) × Tri3} (h : ¬ e.1.1 = p) : starE p [e] = [] := by simp [starE, h]
theorem zI4 (mb b : Nat) (E : Es) (p : Pt) (hE : E.length ≤ 1000000) (w : World) (Bm : Box w mb [.map (some b)] 54) (Hm : HoldsMap eW eT okW w b E) :
    Calls Tryz.prog 95 #[.pointer (some ⟨mb, 0, none⟩), .agg #[.int .i64 p.x, .int .i64 p.y]] w fun e w' => ∃ a cap, e = .returned (.slice a (srt cmpT (starE p E)).length cap) ∧ RowAt cT 6 w' a (srt cmpT (starE p E)) ∧ Below w.heap.size w w' := by
 have Fm := Bm.f
 go_enter Tryz.func95, Tryz.ntmps95
 go_wp2_with (at_range; refine zB7 _ rfl _ rfl kvR rfl (Hm.alloc _) ?_)
 intro w0 HR0 hw0 hs0;have Bp0 : Box w0 w.heap.size [.int .i64 p.x, .int .i64 p.y] 30 := (Box.new rfl).ext hw0 (by simp);replace hw0 : Below w.heap.size w w0 := ((Below.refl w.heap.size w).alloc (Nat.le_refl _) _).trans (hw0.mono (by simp));clear Fm;go_wp2
 go_loopw [5] (fun v wr => ∃ D R : Es, Hid ((D ++ R).Perm E) ∧ wr.ownsRow (w.heap.size + 1) 43 6 v (starE p D).length ((starE p D).flatMap cT) ∧ Ranging eW eT okW wr b (w.heap.size + 1) E R ∧ Box wr w.heap.size [.int .i64 p.x, .int .i64 p.y] 30 ∧ Below w.heap.size w wr) (fun _ wr => wr.rangeLeft b (w.heap.size + 1))
 case atStart => exact ⟨[], E, Lib.hid (by simp), World.ownsRow_nil _ _ _ _, by simpa using HR0, Bp0, hw0⟩
 case round =>
  clear HR0 hw0 Bp0;obtain ⟨D, R, hD, hown, HR, Bp, hw⟩ := hrel;go_wp2_with (at_next; refine zBe _ rfl _ rfl rfl HR ?_ ?_)
  ·intro hR;subst hR;have hp0 : (starE p D).Perm (starE p E) := zH9 (by simpa using hD.out);have hle : (starE p D).length ≤ 1000000 := by have := hp0.length_eq; have := zI2 p E; omega
   have HS := Lib.hid (wholeT.srt_of_perm hp0);obtain ⟨a1, c1, rfl, hc1, hr1⟩ := zAr zFs hown;have hlen := Lib.hid (show (starE p D).length = (srt cmpT (starE p E)).length by rw [← HS.out]; exact (zAo _).length_eq.symm);go_wp2_with fail;refine (zC6 _ _ _ _ (Lib.hid rfl) hle hc1 _ hr1).mono ?_;rintro e w2 ⟨a, cap, rfl, hr, hb⟩;go_wp2
   go_ret
   rw [HS.out] at hr;exact ⟨a, cap, by rw [hlen.out]; rfl, hr, (upB hw hb)⟩
  ·intro u x T R' w1 hperm HR1 hg1 hs1 hen;have hD2 := Lib.hid (show ((D ++ [((u, x), T)]) ++ R').Perm E by have := (hperm.append_left D).symm.trans hD.out; simpa using this);have own1 := hown.kept hg1 (.inr (fun e => zAz hown HR e.symm));have Bp1 := Bp.grown1 hg1;have hw1 := hw.grown hg1 hw.size (fun k hk => by cases hk; omega);have HL := Lib.hid (show w1.rangeLeft b (w.heap.size + 1) < wr.rangeLeft b (w.heap.size + 1) by rw [zAg HR1, zAg HR, hperm.length_eq]; simp);have hen2 : (Instr.entry (.pointer (some ⟨w.heap.size + 1, 0, none⟩))).run Tryz.prog w1 = .ok (.tuple #[.agg #[.int .i64 u.x, .int .i64 u.y, .int .i64 x.x, .int .i64 x.y], .agg #[.int .i64 T.A.x, .int .i64 T.A.y, .int .i64 T.B.x, .int .i64 T.B.y, .int .i64 T.C.x, .int .i64 T.C.y]]) w1 := hen;have hle : (starE p D).length ≤ 1000000 := by have := hD2.out.length_eq; have := zI2 p D; simp at *; omega
   have HB := Lib.hid hw1.size;clear hown HR hg1 hs1 hen hperm hw Bp;have e1 : (w.heap.size = w1.heap.size + 1) = False := by have := Bp1.lt; simp; omega
   by_cases hA : u = p
   ·have hd : peqI u.x u.y p.x p.y = true := zBk.2 hA;have HH := Lib.hid (show starE p (D ++ [((u, x), T)]) = starE p D ++ [T] by rw [zDe, starE_yes hA]);clear hA;have Fp := Bp1.f;have hb3 : Below w1.heap.size w1 ((w1.alloc (.cells #[.int .i64 u.x, .int .i64 u.y, .int .i64 x.x, .int .i64 x.y] 101)).alloc (.cells (cT T).toArray 43)) := by go_grown
    have own3 := (own1.alloc (.cells #[.int .i64 u.x, .int .i64 u.y, .int .i64 x.x, .int .i64 x.y] 101)).alloc (.cells (cT T).toArray 43);go_wp2_with (at_builtin; refine zB3 rfl _ _ rfl (w.heap.size + 1) _ (starE p D) rfl (own3.alloc _) (w1.heap.size + 1 + 1) T rfl (Box.new (by simp)) hle (by have := HB.out; simp; omega) ?_; intro w4 v4 hown4 hg4)
    have hR3 := (HR1.ee hb3).kept (World.grownBy_alloc _ (.cells (cT T).toArray 43) none) (by simp) (by simp);have hR4 := hR3.kept hg4 (zC7 (own3.alloc _) hR3.holds) (zAz (own3.alloc _) hR3);have hw4 := ((((upB hw1 hb3)).alloc (by have := HB.out; simp; omega) (.cells (cT T).toArray 43))).grown hg4 (by have := HB.out; simp; omega) (fun k hk => by have := ((own3.alloc (.cells (cT T).toArray 43)).lt k hk).1; omega);have Bp4 := (((Bp1.old _).old _).old _).grown2 hg4 (fun k hk => by have := ((own3.alloc (.cells (cT T).toArray 43)).lt k hk).1; omega)
    go_roundw
    case rel => exact ⟨D ++ [((u, x), T)], R', hD2, by rw [HH.out]; exact hown4, hR4, Bp4, hw4⟩
    case measure => rw [zAg hR4, ← zAg HR1]; exact HL.out
   ·have hd : peqI u.x u.y p.x p.y = false := by rw [← Bool.not_eq_true, zBk]; exact hA
    have HH := Lib.hid (show starE p (D ++ [((u, x), T)]) = starE p D by rw [zDe, starE_no hA]; simp);clear hA;have Fp := Bp1.f;go_wp2
    go_roundw
    case rel => exact ⟨D ++ [((u, x), T)], R', hD2, by rw [HH.out]; exact (own1.alloc _).alloc _, HR1.ext (by go_grown) rfl, (Bp1.old _).old _, by have := hw1.size; go_grown⟩
    case measure => rw [zAg ((HR1.ext (w' := (w1.alloc _).alloc _) (by go_grown) rfl)), ← zAg HR1]; exact HL.out
end Go.Proofs.YtjkfakaehjmnbaaGreat
namespace Go.Proofs.YtjkfakaehjmnbaaGreat
open Go.RowKit Go.Sort
attribute [local go_sem] rOper rAt rUpon cell_set sg_i64 sg_u64 alloc_cell alloc_frozen
attribute [local go_sem 10000] pt_eql pt_neq wal_eql wal_neq
attribute [local irreducible] rWalk
def onD (p : Pt) (x : Wl) : Bool := !decide (p = x.A) && (!decide (p = x.B) && onR p x.A x.B)
theorem zK9 (p : Pt) (x : Wl) : onD p x = (!peqI p.x p.y x.A.x x.A.y && (!peqI p.x p.y x.B.x x.B.y && onR p x.A x.B)) := by rw [zBy, zBy]; rfl
theorem ron_set_any (db : Nat) (a0 : Option Addr) (c n : Nat) (L : List Wl) (p : Pt) (w : World) (D : DocRd w db a0 c n L) :
    Calls Tryz.prog 96 #[.pointer (some ⟨db, 0, none⟩), .agg #[.int .i64 p.x, .int .i64 p.y]] w fun e w' => e = .returned (onV (L.find? (onD p))) ∧ Below w.heap.size w w' := by
 have hdb := D.box.lt;have HM := Lib.hid D.len;have hn : n ≤ 1000000 := D.len ▸ D.le;have HD := Lib.hid D;clear D
 go_enter Tryz.func96, Tryz.ntmps96
 go_wp2_with fail;refine zA2 fun W1 hW => ?_;have BP : Box W1 w.heap.size [.int .i64 p.x, .int .i64 p.y] 30 := by rw [hW]; exact (Box.new rfl).old _
 have BR : Box W1 (w.heap.size + 1) [.int .i64 0, .int .i64 0, .int .i64 0, .int .i64 0, .int .i64 0] 77 := by rw [hW]; exact Box.new (by simp)
 have hw : Below w.heap.size w W1 := by rw [hW]; go_grown
 clear hW
 go_loopw [6] (fun vi wr => ∃ k : Nat, k ≤ n ∧ vi = .int .i64 k ∧ Hid ((L.take k).find? (onD p) = none) ∧ Below w.heap.size w wr ∧ Box wr w.heap.size [.int .i64 p.x, .int .i64 p.y] 30 ∧ Box wr (w.heap.size + 1) [.int .i64 0, .int .i64 0, .int .i64 0, .int .i64 0, .int .i64 0] 77) (fun vi _ => n - (intOf vi).toNat)
 case atStart => exact ⟨0, Nat.zero_le _, rfl, Lib.hid rfl, hw, BP, BR⟩
 case round =>
  clear BP BR hw;obtain ⟨k, hk, rfl, HI, hwr, BP, BR⟩ := hrel;have BD := (HD.out.ee hwr).box;by_cases hlt : k < n
  ·have hkL : k < L.length := by rw [HM.out]; exact hlt
   obtain ⟨ad, A, ea, eA, hA⟩ := (HD.out.ee hwr).row.five (j := k) hkL;have HX : Hid (L[k] = L[k]) := Lib.hid rfl;generalize hX : L[k] = X at hA HX
   clear HX;have HX := Lib.hid hX;clear hX;obtain ⟨u0, u1, u2, u3, u4, u5⟩ := hA.f;obtain ⟨y0, y1, y2, y3⟩ := BP.f;obtain ⟨d0, d1, d2, d3⟩ := BD.f;obtain ⟨z0, z1, z2, z3⟩ := BR.f;subst ea;have c1 := ron_any p X.A X.B;cases e1 : peqI p.x p.y X.A.x X.A.y with
   | true =>
    have HE : Hid (onD p X = false) := Lib.hid (by rw [zK9, e1]; rfl);have HF : Hid ((L.take (k + 1)).find? (onD p) = none) := Lib.hid (zCh hkL HI.out (by rw [HX.out]; exact HE.out));clear HE HX HI;have HP := Lib.hid BP;have HR := Lib.hid BR;clear BP BR BD;go_wp2
    go_roundw
    case rel => exact ⟨k + 1, hlt, by go_num, HF, by have hl := hwr.size; go_grown, HP.out.old _, HR.out.old _⟩
    case measure => simp [intOf]; omega
   | false =>
    cases e2 : peqI p.x p.y X.B.x X.B.y with
    | true =>
     have HE : Hid (onD p X = false) := Lib.hid (by rw [zK9, e1, e2]; rfl);have HF : Hid ((L.take (k + 1)).find? (onD p) = none) := Lib.hid (zCh hkL HI.out (by rw [HX.out]; exact HE.out));clear HE HX HI;have HP := Lib.hid BP;have HR := Lib.hid BR;clear BP BR BD;go_wp2
     go_roundw
     case rel => exact ⟨k + 1, hlt, by go_num, HF, by have hl := hwr.size; go_grown, HP.out.old _, HR.out.old _⟩
     case measure => simp [intOf]; omega
    | false =>
     cases e4 : onR p X.A X.B with
     | false =>
      have HE : Hid (onD p X = false) := Lib.hid (by rw [zK9, e1, e2, e4]; rfl);rw [e4] at c1;clear e4;have HF : Hid ((L.take (k + 1)).find? (onD p) = none) := Lib.hid (zCh hkL HI.out (by rw [HX.out]; exact HE.out));clear HE HX HI;have HP := Lib.hid BP;have HR := Lib.hid BR;have HW := Lib.hid hwr;go_wp2_with fail;refine zA1 fun W2 hW => ?_;have BP2 : Box W2 w.heap.size [.int .i64 p.x, .int .i64 p.y] 30 := by rw [hW]; exact HP.out.old _
      have BR2 : Box W2 (w.heap.size + 1) [.int .i64 0, .int .i64 0, .int .i64 0, .int .i64 0, .int .i64 0] 77 := by rw [hW]; exact HR.out.old _
      have BX2 : Box W2 wr.heap.size [.int .i64 X.A.x, .int .i64 X.A.y, .int .i64 X.B.x, .int .i64 X.B.y, .int .i64 X.K] 77 := by rw [hW]; exact Box.new rfl
      have hw2 : Below w.heap.size w W2 := by have hl := hwr.size; rw [hW]; go_grown
      clear hW BP BR hwr y0 y1 y2 y3 z0 z1 z2 z3 u0 u1 u2 u3 u4 u5 hA d0 d1 d2 d3 BD;refine (c1 W2).mono ?_;rintro e w3 ⟨rfl, hb⟩;have l1 : w.heap.size + 1 < wr.heap.size := HR.out.lt;replace BP2 := BP2.ee hb;replace BR2 := BR2.ee hb;replace BX2 := BX2.ee hb;replace hw2 := upB hw2 hb;clear hb;obtain ⟨y0, y1, y2, y3⟩ := BP2.f;obtain ⟨z0, z1, z2, z3⟩ := BR2.f;obtain ⟨u0, u1, u2, u3⟩ := BX2.f;go_wp2
      go_roundw
      case rel => exact ⟨k + 1, hlt, by go_num, HF, hw2, BP2, BR2⟩
      case measure => simp [intOf]; omega
     | true =>
      have HE : Hid (onD p X = true) := Lib.hid (by rw [zK9, e1, e2, e4]; rfl);rw [e4] at c1;clear e4;have HP := Lib.hid BP;have HR := Lib.hid BR;have HW := Lib.hid hwr;go_wp2_with fail;refine zA1 fun W2 hW => ?_;have BP2 : Box W2 w.heap.size [.int .i64 p.x, .int .i64 p.y] 30 := by rw [hW]; exact HP.out.old _
      have BR2 : Box W2 (w.heap.size + 1) [.int .i64 0, .int .i64 0, .int .i64 0, .int .i64 0, .int .i64 0] 77 := by rw [hW]; exact HR.out.old _
      have BX2 : Box W2 wr.heap.size [.int .i64 X.A.x, .int .i64 X.A.y, .int .i64 X.B.x, .int .i64 X.B.y, .int .i64 X.K] 77 := by rw [hW]; exact Box.new rfl
      have hw2 : Below w.heap.size w W2 := by have hl := hwr.size; rw [hW]; go_grown
      clear hW BP BR hwr y0 y1 y2 y3 z0 z1 z2 z3 u0 u1 u2 u3 u4 u5 hA d0 d1 d2 d3 BD;refine (c1 W2).mono ?_;rintro e w3 ⟨rfl, hb⟩;have l1 : w.heap.size + 1 < wr.heap.size := HR.out.lt;replace BP2 := BP2.ee hb;replace BR2 := BR2.ee hb;replace BX2 := BX2.ee hb;replace hw2 := upB hw2 hb;clear hb;obtain ⟨y0, y1, y2, y3⟩ := BP2.f;obtain ⟨z0, z1, z2, z3⟩ := BR2.f;obtain ⟨u0, u1, u2, u3⟩ := BX2.f;have HF : Hid (L.find? (onD p) = some X) := Lib.hid (by rw [← HX.out]; exact zIu hkL HI.out (by rw [HX.out]; exact HE.out));clear HE HX HI;go_wp2_with fail;refine bodyPost_ret (v := .tuple #[.agg #[.int .i64 X.A.x, .int .i64 X.A.y, .int .i64 X.B.x, .int .i64 X.B.y, .int .i64 X.K], .bool true]) (by simp [results, Tryz.results96, go_sem, z0]) rfl ⟨?_, by have hl := hw2.size; go_grown⟩;rw [HF.out];rfl
  ·obtain rfl : k = n := by omega
   have HF : Hid (L.find? (onD p) = none) := Lib.hid (zJy (by rw [HM.out]; exact HI.out));clear HI;obtain ⟨z0, z1, z2, z3⟩ := BR.f;obtain ⟨d0, d1, d2, d3⟩ := BD.f;go_wp2_with fail;refine bodyPost_ret (v := .tuple #[.agg #[.int .i64 0, .int .i64 0, .int .i64 0, .int .i64 0, .int .i64 0], .bool false]) (by simp [results, Tryz.results96, go_sem, z0]) rfl ⟨?_, by have hl := hwr.size; go_grown⟩;rw [HF.out]; rfl
attribute [local go_sem ↓ 10000] run_from_wal run_upto_wal
def RemAt (L : List Wl) (p q : Pt) (r : Int) (L' : List Wl) : Prop :=
 (r = 16 ∧ L' = L ∧ ∀ x ∈ L, isW p q x = false) ∨ (r = 0 ∧ ∃ (k : Nat) (h : k < L.length), isW p q L[k] = true ∧ L' = L.take k ++ L.drop (k + 1))
theorem zL3 (p q : Pt) (x : Wl) : isW p q x = (peqI x.A.x x.A.y p.x p.y && peqI x.B.x x.B.y q.x q.y) := by rw [zBy, zBy]; rfl
theorem rrem_any (db : Nat) (v : Value) (L : List Wl) (a b : Pt) (w : World) (S : DocAt w db v L) :
    Calls Tryz.prog 97 #[.pointer (some ⟨db, 0, none⟩), .agg #[.int .i64 a.x, .int .i64 a.y], .agg #[.int .i64 b.x, .int .i64 b.y]] w fun e w' => ∃ r v' L', e = .returned (.int .i64 r) ∧ RemAt L (rl a b) (rg a b) r L' ∧ DocAt w' db v' L' ∧ Frm w w' (· = db) ∧ (∀ g, v'.ownBlock = some g → v.ownBlock = some g ∨ w.heap.size ≤ g) := by
 obtain ⟨a0, c, rfl, D, hz⟩ := S.rd;have HS := Lib.hid S;clear S;have hdb := D.box.lt;have hle := D.le;obtain ⟨n, hn⟩ : ∃ n, L.length = n := ⟨_, rfl⟩;rw [hn] at D HS hle;have HM := Lib.hid hn;have hnc := D.nc;have hfl := D.flat;have HD := Lib.hid D;clear D hn;have c1 := zKx a b;have c2 := zKz a b;generalize rl a b = p at *
 generalize rg a b = q at *
 go_enter Tryz.func97, Tryz.ntmps97
 go_wp2_with fail;refine zA2 fun W1 hW => ?_;have BA : Box W1 w.heap.size [.int .i64 a.x, .int .i64 a.y] 30 := by rw [hW]; exact (Box.new rfl).old _
 have BB : Box W1 (w.heap.size + 1) [.int .i64 b.x, .int .i64 b.y] 30 := by rw [hW]; exact Box.new (by simp)
 have hw : Below w.heap.size w W1 := by rw [hW]; go_grown
 clear hW
 go_loopw [7] (fun vi wr => ∃ k : Nat, k ≤ n ∧ vi = .int .i64 k ∧ Hid (∀ (j : Nat) (h : j < L.length), j < k → isW p q L[j] = false) ∧ Below w.heap.size w wr ∧ Box wr w.heap.size [.int .i64 a.x, .int .i64 a.y] 30 ∧ Box wr (w.heap.size + 1) [.int .i64 b.x, .int .i64 b.y] 30) (fun vi _ => n - (intOf vi).toNat)
 case atStart => exact ⟨0, Nat.zero_le _, rfl, Lib.hid (fun j h hj => by omega), hw, BA, BB⟩
 case round =>
  clear BA BB hw;obtain ⟨k, hk, rfl, HA, hwr, BA, BB⟩ := hrel;have BD := (HD.out.ee hwr).box;have hrow := (HD.out.ee hwr).row;by_cases hkn : k < n
  ·have hkL : k < L.length := by rw [HM.out]; exact hkn
   obtain ⟨aj, A, ea, eA, hA5⟩ := hrow.five (j := k) hkL;have HY : Hid (L[k] = L[k]) := Lib.hid rfl;generalize hY : L[k] = Y at hA5 HY
   clear HY;have HY := Lib.hid hY;clear hY;obtain ⟨s0, s1, s2, s3, s4⟩ := hA5.cells;have gA := BA.cells;have gB := BB.cells;have gD := BD.cells;obtain ⟨d0, d1, d2, d3⟩ := BD.f;have q3 : (k : Int) < (n : Int) := by omega
   have q4 : (0 : Int) ≤ (k : Int) := by omega
   subst ea;clear hA5;cases e1 : peqI Y.A.x Y.A.y p.x p.y with
   | false =>
    have HE : Hid (isW p q Y = false) := Lib.hid (by rw [zL3, e1]; rfl);have HA2 : Hid (∀ (j : Nat) (h : j < L.length), j < k + 1 → isW p q L[j] = false) := Lib.hid (fun j h hj => by
     by_cases e : j = k
     ·subst e; rw [HY.out]; exact HE.out
     ·exact HA.out j h (by omega))
    clear HA HY HE;go_wp2_with fail;refine (wp_region_tail 25 (by kernel_rfl) (by kernel_rfl) (C := fun w' => ∃ p : Regrown, w' = grow (redrawn wr p.d) p.os) rgB ?_);simp only [tK1, tK0, dP1, dP0];repeat (first | (refine zA0 (Eq.refl false) ?_; simp only [Act.put, sT2, sT1, sT0]) | (refine rWalk_step (fun K hK => ?_); go_simp; first | (refine hK _ ?_; clear hK K) | (apply Exists.intro; refine ⟨fun _ => ?_, hK _ ?_⟩; (first | with_reducible exact toExt c1 _ | with_reducible exact toExt c2 _); clear hK K)))
    refine rWalk_nil ?_;intro wx hb;replace BA := BA.ee hb;replace BB := BB.ee hb;replace BD := BD.ee hb;replace hrow := hrow.ee hb;replace hwr := upB hwr hb;clear hb gA gB gD d0 d1 d2 d3 s0 s1 s2 s3 s4 c1 c2 q3 q4;have HQ := Lib.hid hwr;have HBA := Lib.hid BA;have HBB := Lib.hid BB;clear BA BB BD hrow hwr;go_wp2
    go_roundw
    case rel => exact ⟨k + 1, hkn, by go_num, HA2, HQ.out, HBA.out, HBB.out⟩
    case measure => simp [intOf]; omega
   | true =>
    cases e2 : peqI Y.B.x Y.B.y q.x q.y with
    | false =>
     have HE : Hid (isW p q Y = false) := Lib.hid (by rw [zL3, e1, e2]; rfl);have HA2 : Hid (∀ (j : Nat) (h : j < L.length), j < k + 1 → isW p q L[j] = false) := Lib.hid (fun j h hj => by
      by_cases e : j = k
      ·subst e; rw [HY.out]; exact HE.out
      ·exact HA.out j h (by omega))
     clear HA HY HE;go_wp2_with fail;refine (wp_region_tail 25 (by kernel_rfl) (by kernel_rfl) (C := fun w' => ∃ p : Regrown, w' = grow (redrawn wr p.d) p.os) rgB ?_);simp only [tK1, tK0, dP1, dP0];repeat (first | (refine zA0 (Eq.refl false) ?_; simp only [Act.put, sT2, sT1, sT0]) | (refine rWalk_step (fun K hK => ?_); go_simp; first | (refine hK _ ?_; clear hK K) | (apply Exists.intro; refine ⟨fun _ => ?_, hK _ ?_⟩; (first | with_reducible exact toExt c1 _ | with_reducible exact toExt c2 _); clear hK K)))
     refine rWalk_nil ?_;intro wx hb;replace BA := BA.ee hb;replace BB := BB.ee hb;replace BD := BD.ee hb;replace hrow := hrow.ee hb;replace hwr := upB hwr hb;clear hb gA gB gD d0 d1 d2 d3 s0 s1 s2 s3 s4 c1 c2 q3 q4;have HQ := Lib.hid hwr;have HBA := Lib.hid BA;have HBB := Lib.hid BB;clear BA BB BD hrow hwr;go_wp2
     go_roundw
     case rel => exact ⟨k + 1, hkn, by go_num, HA2, HQ.out, HBA.out, HBB.out⟩
     case measure => simp [intOf]; omega
    | true =>
     have HE : Hid (isW p q Y = true) := Lib.hid (by rw [zL3, e1, e2]; rfl);obtain ⟨k1, hk1⟩ : ∃ k1, k + 1 = k1 := ⟨_, rfl⟩;have HREM : Hid (RemAt L p q 0 (L.take k ++ L.drop k1)) := Lib.hid (.inr ⟨rfl, k, hkL, by rw [HY.out]; exact HE.out, by rw [hk1]⟩);clear HA HY HE;go_wp2_with fail;refine (wp_region_tail 25 (by kernel_rfl) (by kernel_rfl) (C := fun w' => ∃ p : Regrown, w' = grow (redrawn wr p.d) p.os) rgB ?_);simp only [tK1, tK0, dP1, dP0];repeat (first | (refine zA0 (Eq.refl false) ?_; simp only [Act.put, sT2, sT1, sT0]) | (refine rWalk_step (fun K hK => ?_); go_simp; first | (refine hK _ ?_; clear hK K) | (apply Exists.intro; refine ⟨fun _ => ?_, hK _ ?_⟩; (first | with_reducible exact toExt c1 _ | with_reducible exact toExt c2 _); clear hK K)))
     refine rWalk_nil ?_;intro wx hb;replace BA := BA.ee hb;replace BB := BB.ee hb;replace BD := BD.ee hb;replace hrow := hrow.ee hb;replace hwr := upB hwr hb;clear hb gA gB gD d0 d1 d2 d3 s0 s1 s2 s3 s4 c1 c2 q3 q4;obtain ⟨ad, had, hdr, hfl2, hnil⟩ := zH1 hrow HM.out hnc hfl (show k1 ≤ n by omega) hz;have HAD := Lib.hid had;have HT1 := Lib.hid (show (L.take k).length = k by rw [List.length_take, HM.out]; omega);have HT2 := Lib.hid (show (L.drop k1).length = n - k1 by rw [List.length_drop, HM.out]);have hk6 : k ≤ 1000000 := by omega
     have hk7 : k + (n - k1) ≤ 1000000 := by omega
     have q5 : IntKind.i64.wrap ((k : Int) + 1) = (k1 : Int) := by rw [IntKind.wrap_i64]; omega
     have gD := BD.cells;have z2 : k ≤ c := by omega
     have z3 : k1 ≤ n := by omega
     clear had hk1 e1 e2;go_wp2_with fail;have hcB : ∀ w', (∃ p : Regrown, w' = grow (redrawn wx p.d) p.os) → Below wx.heap.size wx w' := fun w' h => by obtain ⟨p, rfl⟩ := h; exact below_regrown _ _ _
     refine FT.wp_region_flow 17 (.run 0 (.run 2 (.run 3 (.run 4 (.run 5 (.run 6 (.run 7 (.run 9 (.run 10 (.run 11 (.run 12 (.run 13 (.run 14 (.run 15 (.alt 1 (.alt 8 (.alt 16 (.tail) .stop) .stop) .stop))))))))))))))) rfl (by kernel_rfl) (fun _ x _ _ _ h => by cases x <;> exact h) (C := fun w' => ∃ p : Regrown, w' = grow (redrawn wx p.d) p.os) rgB hcB ?_;have hC : ∀ x y, Ext x y → (∃ p : Regrown, x = grow (redrawn wx p.d) p.os) → (∃ p : Regrown, y = grow (redrawn wx p.d) p.os) := fun x y h1 h2 => regrown_of_below ((hcB x h2).trans (h1.mono (hcB x h2).size))
     iterate 14 (refine FT.flow_run rfl (fun K hK => ?_); go_simp; first | (refine hK _ ?_; clear hK K) | (apply Exists.intro; refine ⟨fun _ => ?_, hK _ ?_⟩; rotate_left; clear hK K))
     first | rw [HAD.out] | (have hq := HAD.out; simp only [Option.map_some] at hq; rw [hq]; clear hq)
     refine FT.flow_at hC rfl trivial (fun w1 hw1 K hK => ?_);go_simp;have hbM : Below wx.heap.size wx (w1.alloc (.cells #[] 77)) := Below.alloc hw1 (Below.size hw1) _;have hrM := zFf w1 wx.heap.size (Below.size hw1);refine hK _ _ (regrown_of_below hbM) ?_;clear hK K;refine FT.flow_at hC rfl trivial (fun w2 hw2 K hK => ?_);have hb2 := hbM.trans (Below.mono hw2 hbM.size);refine zAh (by rfl) _ _ (by rfl) wx.heap.size _ [] (by rfl) (hrM.ee hw2) _ k c (L.take k) (by rfl) HT1.out ((hrow.ee hb2).take k) hfl (fun e => by cases e) (by simpa using hk6) (Below.size hb2) (some 51) (by rfl) ?_;intro w3 v12 hr12 hf12 hs12;rw [List.nil_append] at hr12;have hb3 := hb2.trans (hf12.below (fun k e => ((hrM.ee hw2).lt k e).1) hb2.size);refine hK _ _ (regrown_of_below hb3) ?_;clear hK K;simp only [Act.put, sT2, sT1, sT0];refine FT.flow_at hC rfl trivial (fun w6 hw6 K hK => ?_);have hb6 := (upB hb3 hw6);refine zAh (by rfl) _ _ (by rfl) wx.heap.size v12 (L.take k) (by rfl) (hr12.ee hw6) ad (n - k1) (c - k1) (L.drop k1) (by rfl) HT2.out (hdr.ee hb6) hfl2 hnil (by rw [HT1.out]; exact hk7) hb6.size (some 59) (by rfl) ?_;intro w7 v18 hr18 hf18 hs18;have hb7 := hb6.trans (hf18.below (fun k e => ((hr12.ee hw6).lt k e).1) hb6.size);refine hK _ _ (regrown_of_below hb7) ?_;clear hK K;simp only [Act.put, sT2, sT1, sT0];intro w8 hw8;have hb8 := (upB hb7 hw8);have BD8 := BD.ee hb8;have hw8' := (upB hwr hb8);obtain ⟨hS8, hF8, hG8⟩ := zFn HS.out hw8' ((hr18.ee hw8).base hwr.size) (by rw [List.length_append, HT1.out, HT2.out]; exact hk7);obtain ⟨a18, n18, c18, rfl⟩ := hr18.form;obtain ⟨d0, d1, d2, d3⟩ := BD8.f;clear hr12 hr18 hf12 hs12 hf18 hs18 gD;simp only [dP1, dP0];go_wp2
     go_ret
     exact ⟨0, _, _, rfl, HREM.out, hS8, hF8, fun g e => .inr (hG8 g e)⟩
  ·obtain rfl : k = n := by omega
   have HREM : Hid (RemAt L p q 16 L) := Lib.hid (.inl ⟨rfl, rfl, fun x hx => by
    obtain ⟨j, hj, rfl⟩ := List.mem_iff_getElem.1 hx;exact HA.out j hj (by have := HM.out; omega)⟩)
   have hF : Frm w wr (· = db) := Frm.of_below hwr;have hS := HS.out.ee hwr;have HF := Lib.hid hF;have HS2 := Lib.hid hS;obtain ⟨d0, d1, d2, d3⟩ := BD.f;clear hS hF HA;go_wp2
   go_ret
   exact ⟨16, _, L, rfl, HREM.out, HS2.out, HF.out, fun g e => .inl (by rw [HM.out]; exact e)⟩
end Go.Proofs.YtjkfakaehjmnbaaGreat
namespace Go.Proofs.YtjkfakaehjmnbaaGreat
open Go.RowKit Go.Sort
attribute [local go_sem] rOper rAt rUpon cell_set sg_i64 sg_u64 alloc_cell alloc_frozen
attribute [local go_sem 10000] pt_eql pt_neq tri_eql
attribute [local irreducible] rWalk
def putF (E : Es) (T : Tri3) : Es := if freeE E T = true then putT E T else E
theorem rputF_any (mb b : Nat) (E : Es) (T : Tri3) (hk : okT T) (w : World) (Bm : Box w mb [.map (some b)] 54) (Hm : HoldsMap eW eT okW w b E) :
    Calls Tryz.prog 61 #[.pointer (some ⟨mb, 0, none⟩), .agg #[.int .i64 T.A.x, .int .i64 T.A.y, .int .i64 T.B.x, .int .i64 T.B.y, .int .i64 T.C.x, .int .i64 T.C.y]] w fun e w' => ∃ r, e = .returned (.bool r) ∧ w.grownBy w' (some b) ∧ HoldsMap eW eT okW w' b (putF E T) := by
 unfold putF;cases hf : freeE E T with
 | true => exact (zF8 mb b E T hf hk w Bm Hm).mono fun e w' ⟨h1, h2, h3⟩ => ⟨true, h1, h2, by rw [if_pos rfl]; exact h3⟩
 | false => exact (zJd mb b E T hf hk w Bm Hm).mono fun e w' ⟨h1, h2⟩ => ⟨false, h1, zA7 h2 _, by rw [if_neg (by decide)]; exact Hm.ee h2⟩
def atE (E : Es) (p : Pt) : List Tri3 := srt cmpT (heads (fun T => hasP T p) E)
def cutS (p : Pt) (T : Tri3) : List Tri3 := srt cmpT (cutR T p)
def addPE (E : Es) (p : Pt) : Es := (atE E p).foldl (fun E T => (cutS p T).foldl putF E) ((atE E p).foldl takeT E)
section
variable (mb b db : Nat) (E : Es) (p : Pt) (hE : E.length ≤ 1000000) (w : World) (Bm : Box w mb [.map (some b)] 54) (Hm : HoldsMap eW eT okW w b E)
include hE Bm Hm
theorem raddP_none (hat : atE E p = []) :
    Calls Tryz.prog 51 #[.pointer (some ⟨mb, 0, none⟩), .pointer (some ⟨db, 0, none⟩), .agg #[.int .i64 p.x, .int .i64 p.y]] w fun e w' => e = .returned (.int .i64 1) ∧ Below w.heap.size w w' := by
 have cA := fun w0 B1 H1 => zJi mb b E p hE w0 B1 H1
 change ∀ (w0 : World) B1 H1, Calls _ _ _ _ fun e w' => ∃ a cap, e = .returned (.slice a (atE E p).length cap) ∧ RowAt cT 6 w' a (atE E p) ∧ Below w0.heap.size w0 w' at cA
 rw [hat] at cA;clear hat
 go_enter Tryz.func51, Tryz.ntmps51
 go_wp2_with fail;refine zA1 fun W1 hW => ?_;have hw : Below w.heap.size w W1 := by rw [hW]; go_grown
 clear hW;refine (cA _ (Bm.ee hw) (Hm.ee hw)).mono ?_;rintro e w2 ⟨a, cap, rfl, hr, hb⟩;have hw2 := (upB hw hb);clear hb cA;go_wp2
 go_ret
 exact ⟨rfl, hw2⟩
theorem raddP_have (hat : atE E p ≠ []) (hst : starE p E ≠ []) :
    Calls Tryz.prog 51 #[.pointer (some ⟨mb, 0, none⟩), .pointer (some ⟨db, 0, none⟩), .agg #[.int .i64 p.x, .int .i64 p.y]] w fun e w' => e = .returned (.int .i64 5) ∧ Below w.heap.size w w' := by
 have cA := fun w0 B1 H1 => zJi mb b E p hE w0 B1 H1
 change ∀ (w0 : World) B1 H1, Calls _ _ _ _ fun e w' => ∃ a cap, e = .returned (.slice a (atE E p).length cap) ∧ RowAt cT 6 w' a (atE E p) ∧ Below w0.heap.size w0 w' at cA
 have cS := fun w0 B1 H1 => zI4 mb b E p hE w0 B1 H1;obtain ⟨n, hn⟩ : ∃ n, (atE E p).length = n := ⟨_, rfl⟩;obtain ⟨m, hm⟩ : ∃ m, (srt cmpT (starE p E)).length = m := ⟨_, rfl⟩;have hn0 : ((n : Int) == 0) = false := by
  have : n ≠ 0 := fun e => hat (List.length_eq_zero_iff.1 (hn.trans e));simp; omega
 have hm1 : 0 < m := by
  have : m ≠ 0 := fun e => hst (List.length_eq_zero_iff.1 (by rw [← (zAo (c := cmpT) (starE p E)).length_eq, hm, e]));omega
 have hm0 : decide (0 < (m : Int)) = true := by simp; omega
 have hm2 : (0 < (m : Int)) = True := by simp; omega
 rw [hn] at cA;rw [hm] at cS;clear hat hst hn hm
 go_enter Tryz.func51, Tryz.ntmps51
 go_wp2_with fail;refine zA1 fun W1 hW => ?_;have hw : Below w.heap.size w W1 := by rw [hW]; go_grown
 have Bp : Box W1 w.heap.size [.int .i64 p.x, .int .i64 p.y] 30 := by rw [hW]; exact Box.new rfl
 clear hW;refine (cA _ (Bm.ee hw) (Hm.ee hw)).mono ?_;rintro e w2 ⟨a, cap, rfl, hr, hb⟩;have hw2 := (upB hw hb);have Bp2 := Bp.ee hb;clear hb cA hr;have Fp := Bp2.f;go_wp2_with fail;refine (cS _ (Bm.ee hw2) (Hm.ee hw2)).mono ?_;rintro e w3 ⟨a3, cap3, rfl, hr3, hb3⟩;have hw3 := (upB hw2 hb3);clear hb3 cS hr3 Fp;go_wp2
 go_ret
 exact ⟨rfl, hw3⟩
end
end Go.Proofs.YtjkfakaehjmnbaaGreat
