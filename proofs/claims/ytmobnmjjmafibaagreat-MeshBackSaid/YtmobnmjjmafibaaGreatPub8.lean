/- Put together: CdtJ, CdtK, CdtE, CdtH, DocD, DocF, CdtL, CdtM, CdtN, CdtO, MesV, MesW. -/
import Derived.Test.YtmobnmjjmafibaaGreatRows
import Derived.Test.YtmobnmjjmafibaaGreatPub6
import Derived.Test.YtmobnmjjmafibaaGreatPub7
import Derived.Test.YtmobnmjjmafibaaGreatPub3
import Derived.Test.YtmobnmjjmafibaaGreatPub0
import Derived.WalkKit
import Derived.WalkSpells
import Derived.WalkLawsBesides
import Derived.Laws.Externs
import Derived.Deep.QuietTactic
import Derived.BigQuiet
import Derived.Lib.Hide
import Derived.Handy
import Derived.OwnWalk
import Derived.Deep.LoopGhost
import Derived.LoopN
import Derived.RegionTactic
import Derived.Maps.RangeWalk
import Derived.Test.YtmobnmjjmafibaaGreatPub5
import Derived.Test.YtmobnmjjmafibaaGreatPub4
import Derived.Test.YtmobnmjjmafibaaGreatPub1
set_option maxRecDepth 100000
set_option maxHeartbeats 8000000
namespace Go.Proofs.YtmobnmjjmafibaaGreat
open Go.RowKit
theorem zEa {p : Pt} (h : vld p = true) : okP p := by
 rw [zAr] at h
 have mn : IntKind.i64.min = -9223372036854775808 := by decide
 have mx : IntKind.i64.max = 9223372036854775807 := by decide
 have key : ∀ n : Int, 0 ≤ n → n < 16777216 → okI n := fun n h1 h2 => by
  show (decide (IntKind.i64.min ≤ n) && decide (n ≤ IntKind.i64.max)) = true
  rw [mn, mx]
  simp; omega
 exact ⟨key _ h.1.1 h.1.2, key _ h.2.1 h.2.2⟩
theorem zBx {T : Tri3} (h : valT T = true) : okT T := by
 obtain ⟨va, vb, vc, _⟩ := zDe h
 exact ⟨zEa va, zEa vb, zEa vc⟩
theorem isE_sym (p q : Pt) (x : Wl) : isE p q x = isE q p x := by unfold isE; exact Bool.or_comm _ _
theorem zHx (L : List Wl) (p q : Pt) : kindD L p q = kindD L q p := by
 unfold kindD
 rw [show isE p q = isE q p from funext (isE_sym p q)]
def wll (D : List Wl) (a b : Pt) : Prop := kindD D a b ≠ 0
theorem zEj {T : Tri3} {a b c : Pt} (h : Cyc T a b c) (h1 : a ≠ b) (h2 : b ≠ c) (h3 : c ≠ a) : apx T a b = c ∧ apx T b a = c := by
 have t : ∀ p : Pt, peqI p.x p.y p.x p.y = true := fun p => pp rfl
 unfold apx
 rcases h with ⟨rfl, rfl, rfl⟩ | ⟨rfl, rfl, rfl⟩ | ⟨rfl, rfl, rfl⟩
 ·simp [t]
 ·rw [if_pos ⟨zBd.2 h3, zBd.2 (Ne.symm h2)⟩, if_pos ⟨zBd.2 (Ne.symm h2), zBd.2 h3⟩]; exact ⟨rfl, rfl⟩
 ·simp [t, zBd.2 h3, zBd.2 (Ne.symm h2)]
theorem zIc {T : Tri3} {a b c : Pt} (h : Cyc T a b c) (d : Pt) : circ T.A T.B T.C d = circ a b c d := by
 rcases h with ⟨rfl, rfl, rfl⟩ | ⟨rfl, rfl, rfl⟩ | ⟨rfl, rfl, rfl⟩
 ·rfl
 ·exact (zGj T.A T.B T.C d).symm
 ·exact zGj T.C T.A T.B d
theorem zD9 {E : Es} {T : Tri3} (h : fitsE E T = true) : freeE E T = true := by
 rw [zGd] at h
 simp only [Bool.and_eq_true] at h
 exact h.1
structure Flips (E : Es) (p q : Pt) (S R U V : Tri3) (C D : Pt) : Prop where
 h0 : getE E (p, q) = some S
 h1 : getE E (q, p) = some R
 hC : apx S p q = C
 hD : apx R p q = D
 o1 : decide (ori p D C ≤ 0) = false
 o2 : decide (ori D q C ≤ 0) = false
 hU : mk p D C = U
 hV : mk D q C = V
 he : getE E (D, C) = none
 hf : getE E (C, D) = none
 hc : okW (C, D)
 hS : okT S
 hR : okT R
 hu : okT U
 hv : okT V
 f1 : freeE (takeT (takeT E S) R) U = true
 f2 : freeE (putT (takeT (takeT E S) R) U) V = true
def flipE (E : Es) (S R U V : Tri3) : Es := putT (putT (takeT (takeT E S) R) U) V
section
variable {W H : Int} {E : Es} {L : List Tri3} {D : List Wl} (hW : W < 16777216) (hH : H < 16777216) {h : Pt → Int}
include hW hH
theorem Flp.go {K : Pt → Pt → Prop} {S R : Tri3} {M : List Tri3} {p q c d : Pt} (g : Good E L) (t : Tiles W H L) (f : Flp K L S R M p q c d) :
    Flips E p q S R (mk p d c) (mk d q c) c d ∧ Good (flipE E S R (mk p d c) (mk d q c)) (mk c p d :: mk d q c :: M) := by
 have vb : ∀ q, inBox W H q → vld q = true := fun q hq => by rw [zAr]; unfold inBox at hq; omega
 obtain ⟨bp, bq, bc, bd⟩ := f.pts t
 have mS : S ∈ L := f.perm.mem_iff.2 (by simp)
 have mR : R ∈ L := f.perm.mem_iff.2 (by simp)
 obtain ⟨n1, n2, n3⟩ := zAh (t.cyc_pos mS f.one)
 obtain ⟨m1, m2, m3⟩ := zAh (t.cyc_pos mR f.two)
 obtain ⟨u, v⟩ := f.news t hW hH
 have t' := f.tiles t hW hH
 have eU : mk p d c = mk c p d := zJl c p d
 have k1 := Good.takes (F := [S, R]) (M := M) (g.order f.perm)
 have k2 : Good (takeT (takeT E S) R) M := by
  have a1 := (Good.take (E := E) (T := S) (M := R :: M) (g.order f.perm)).2
  exact (Good.take (E := takeT E S) (T := R) (M := M) a1).2
 have n0 := t'.once
 have nn : ∀ w ∈ ways (mk c p d), w ∉ M.flatMap ways := fun w hw hm => by
  rw [List.flatMap_cons, List.nodup_append] at n0
  exact n0.2.2 w hw w (by rw [List.flatMap_cons]; exact List.mem_append_right _ hm) rfl
 obtain ⟨p1, p2⟩ := Good.put (E := takeT (takeT E S) R) (T := mk c p d) (M := M) k2 u.2 nn
 have nn2 : ∀ w ∈ ways (mk d q c), w ∉ (mk c p d :: M).flatMap ways := fun w hw hm => by
  rw [List.flatMap_cons, List.nodup_append] at n0
  rw [List.flatMap_cons, List.mem_append] at hm
  rcases hm with hm | hm
  ·exact n0.2.2 w hm w (by rw [List.flatMap_cons]; exact List.mem_append_left _ hw) rfl
  ·have := n0.2.1
   rw [List.flatMap_cons, List.nodup_append] at this
   exact this.2.2 w hw w hm rfl
 obtain ⟨q1, q2⟩ := Good.put (E := putT (takeT (takeT E S) R) (mk c p d)) (T := mk d q c) (M := mk c p d :: M) p2 v.2 nn2
 rw [eU]
 refine ⟨⟨g.get.2 ⟨mS, f.one.way⟩, g.get.2 ⟨mR, f.two.way⟩, (zEj f.one n1 n2 n3).1, (zEj f.two m1 m2 m3).2, ?_, ?_, eU, rfl, g.get_none.2 (t.no_diag mS f.one f.left f.right), g.get_none.2 (t.no_diag mR f.two f.right f.left), ⟨zEa (vb _ bc), zEa (vb _ bd)⟩, zBx (g.val _ mS), zBx (g.val _ mR), zBx u.2, zBx v.2, zD9 p1, zD9 q1⟩, q2.order (List.Perm.swap _ _ _)⟩
 ·rw [ori_v (vb _ bp) (vb _ bd) (vb _ bc)]
  have := zAg (det p d c)
  have e : det p d c = det c p d := zAv c p d
  have := f.left
  simp; omega
 ·rw [ori_v (vb _ bd) (vb _ bq) (vb _ bc)]
  have := zAg (det d q c)
  have := f.right
  simp; omega
theorem bad_go (hh : Hts h) (g : Good E L) (t : Tiles W H L) {p q : Pt} (hb : badD E D p q = true) :
    ∃ S R U V C D', Flips E p q S R U V C D' ∧ ∃ L', Good (flipE E S R U V) L' ∧ Tiles W H L' ∧ Kept (wll D) L L' ∧ volS h L' < volS h L := by
 unfold badD at hb
 cases h1 : getE E (p, q) with
 | none => rw [zC8 h1] at hb; simp at hb
 | some S =>
  cases h2 : getE E (q, p) with
  | none => rw [zC8 h2] at hb; simp at hb
  | some R =>
   rw [zBe h1, zBe h2] at hb
   simp only [Bool.true_and, Bool.and_eq_true, decide_eq_true_eq] at hb
   obtain ⟨k0, kc⟩ := hb
   obtain ⟨mS, wS⟩ := g.get.1 h1
   obtain ⟨mR, wR⟩ := g.get.1 h2
   obtain ⟨c, cS⟩ := zDd wS
   obtain ⟨d, cR⟩ := zDd wR
   obtain ⟨m1, m2, m3⟩ := zAh (t.cyc_pos mR cR)
   rw [(zEj cR m1 m2 m3).2, zIc cS] at kc
   obtain ⟨hp, M, f⟩ := t.flip_bad (K := wll D) hW hH hh mS mR cS cR ⟨fun k => k k0, fun k => k (by rw [zHx]; exact k0)⟩ kc
   have go := f.go hW hH g t
   exact ⟨S, R, _, _, c, d, go.1, _, go.2, f.tiles t hW hH, f.kept t hW hH, f.less t hW hH hp⟩
theorem none_bad (g : Good E L) (t : Tiles W H L) (hb : badsD E D E = []) : Fixed W H (wll D) L := by
 have vb : ∀ q, inBox W H q → vld q = true := fun q hq => by rw [zAr]; unfold inBox at hq; omega
 have main : ∀ S ∈ L, ∀ R ∈ L, ∀ a b c d, Cyc S a b c → Cyc R b a d → ¬ wll D a b → cmpP a b < 0 → circ a b c d ≠ 1 := by
  intro S hS R hR a b c d cS cR hk hc he
  have e1 := g.get.2 ⟨hS, cS.way⟩
  have e2 := g.get.2 ⟨hR, cR.way⟩
  obtain ⟨m1, m2, m3⟩ := zAh (t.cyc_pos hR cR)
  have k0 : kindD D a b = 0 := Decidable.byContradiction fun k => hk k
  have hbad : badD E D a b = true := by
   unfold badD
   rw [zBe e1, zBe e2]
   simp only [Bool.true_and, Bool.and_eq_true, decide_eq_true_eq]
   exact ⟨k0, by rw [(zEj cR m1 m2 m3).2, zIc cS]; exact he⟩
  have hm : ((a, b), S) ∈ E := zJ6 e1
  have : (⟨a, b, 1⟩ : Wl) ∈ badsD E D E := by
   unfold badsD
   rw [List.mem_filterMap]
   exact ⟨_, hm, by simp [hbad, hc]⟩
  rw [hb] at this
  cases this
 refine ⟨t, fun S hS R hR a b c d cS cR hk he => ?_⟩
 have va := vb _ (t.cyc_box hS cS)
 have vb' := vb _ (t.cyc_box hR cR)
 have p1 := t.cyc_pos hS cS
 have p2 := t.cyc_pos hR cR
 have nab := zF6 p1
 have hs := zAg (key a - key b)
 have hck := zDa va vb'
 by_cases hlt : cmpP a b < 0
 ·exact main S hS R hR a b c d cS cR hk hlt he
 ·have hne : key a ≠ key b := fun e => nab (zBj va vb' e)
  have hgt : cmpP b a < 0 := by
   rw [zDa vb' va]
   have := zAg (key b - key a)
   omega
  refine main R hR S hS b a d c cR cS (fun k => hk (by unfold wll at *; rw [zHx]; exact k)) hgt ?_
  have vd := vb _ (t.cyc_box hR cR.turn.turn)
  have vc := vb _ (t.cyc_box hS cS.turn.turn)
  have o1 : ¬ ori a b c = 0 := by rw [ori_v va vb' vc, zBk]; omega
  have o2 : ¬ ori a b d = 0 := by
   rw [ori_v va vb' vd, zBk]
   rw [zBw] at p2; omega
  have dc : d ≠ c := by
   rintro rfl
   rw [zBw] at p2; omega
  rw [zIb, circ_last o1 o2 dc, he]; rfl
end
end Go.Proofs.YtmobnmjjmafibaaGreat
namespace Go.Proofs.YtmobnmjjmafibaaGreat
open Go.RowKit Go.Sort
attribute [local go_sem] rOper rAt rUpon cell_set sg_i64 sg_u64 alloc_cell alloc_frozen
attribute [local go_sem 10000] pt_eql pt_neq tri_eql
attribute [local irreducible] rWalk
theorem cW_ne (x : Wl) : cW x ≠ [] := by simp [cW]
theorem DocRd.turn {w w' : World} {db c n b : Nat} {a0 : Option Addr} {L : List Wl} {E : Es} (S : DocRd w db a0 c n L) (H : HoldsMap eW eT okW w b E) (hg : w.grownBy w' (some b)) : DocRd w' db a0 c n L :=
 ⟨S.box.turn H hg, S.row.turn cW_ne H hg, S.len, S.le, S.nc, S.flat⟩
theorem zJ5 {E : Es} {L : List Tri3} (g : Good E L) : ∀ e ∈ E, okW e.1 := fun e he => by
 obtain ⟨w, T⟩ := e
 obtain ⟨hT, hw⟩ := zIi.1 (g.perm.mem_iff.1 he)
 have ok := okT_w (zBx (g.val T hT))
 simp only [ways, List.mem_cons, List.not_mem_nil, or_false] at hw
 rcases hw with rfl | rfl | rfl
 ·exact ok.1
 ·exact ok.2.1
 ·exact ok.2.2
structure RSt (W H : Int) (D : List Wl) (L : List Tri3) (E1 : Es) (L1 : List Tri3) : Prop where
 good : Good E1 L1
 tiles : Tiles W H L1
 kept : Kept (wll D) L L1
def RepPost (W H : Int) (b : Nat) (D : List Wl) (L : List Tri3) (w : World) (e : Ending) (w' : World) : Prop :=
 e = .returned (.tuple #[]) ∧ ∃ E1 L1, w.grownBy w' (some b) ∧ HoldsMap eW eT okW w' b E1 ∧ RSt W H D L E1 L1 ∧ Fixed W H (wll D) L1
theorem zFf (mb b db : Nat) (a0 : Option Addr) (c n : Nat) (E : Es) (L : List Tri3) (D : List Wl) (W H : Int) (hW : W < 16777216) (hH : H < 16777216) (hL : L.length ≤ 30000) (g : Good E L) (ti : Tiles W H L) (w : World) (Bm : Box w mb [.map (some b)] 41) (Hm : HoldsMap eW eT okW w b E) (Dw : DocRd w db a0 c n D) :
    Calls Tryz.prog 71 #[.pointer (some ⟨mb, 0, none⟩), .pointer (some ⟨db, 0, none⟩)] w (RepPost W H b D L w) := by
 obtain ⟨h, hh⟩ := hts_ex
 have S0 := Lib.hid (show RSt W H D L E L from ⟨g, ti, Kept.refl _ _⟩)
 have HLL := Lib.hid hL
 clear g ti hL
 go_enter Tryz.func71, Tryz.ntmps71
 go_wp2
 go_loopg [4] ((volS h L).toNat + 1) (fun k v wr => ∃ (E1 : Es) (L1 : List Tri3) (ag : Bool), v = .bool ag ∧ HoldsMap eW eT okW wr b E1 ∧ Hid (RSt W H D L E1 L1) ∧ Hid (ag = false → Fixed W H (wll D) L1) ∧ Hid (ag = true → (volS h L1).toNat < k) ∧ w.grownBy wr (some b))
 case atStart => exact ⟨E, L, true, rfl, Hm, S0, Lib.hid (fun e => by cases e), Lib.hid (fun _ => Nat.lt_succ_self _), zC1 _ _⟩
 case round =>
  obtain ⟨E1, L1, ag, rfl, H1, hS, hF, hV, hg⟩ := hrel
  cases ag with
  | false =>
   have HFX := Lib.hid (hF.out rfl)
   clear hF hV
   go_wp2
   exact bodyPost_end (results_none rfl _ _ _) rfl ⟨rfl, E1, L1, hg, H1, hS.out, HFX.out⟩
  | true =>
   have HV := Lib.hid (hV.out rfl)
   clear hV
   have B1 := Bm.turn Hm hg
   have D1 := Dw.turn Hm hg
   have hlen : L1.length ≤ 30000 := by rw [hS.out.kept.len]; exact HLL.out
   have hE1 : E1.length ≤ 100000 := by rw [hS.out.good.len]; omega
   have cB := rBad_any mb b db a0 c n E1 D hE1 (zJ5 hS.out.good) wr B1 H1 D1
   have hE2 := Lib.hid hE1
   clear hlen hE1 hF
   go_wp2_with fail
   refine cB.mono ?_
   rintro e w2 ⟨a, cap, l, rfl, hl, hr, hb⟩
   have hll := Lib.hid (show l.length ≤ 100000 by rw [hl.length_eq]; exact Nat.le_trans (zId E1 D E1) hE2.out)
   have HLB := Lib.hid hl
   have g2 := zAa hg hb
   have H2 := H1.ee hb
   clear cB hb hl B1 D1 H1 hE2
   obtain ⟨m, hm⟩ : ∃ m, l.length = m := ⟨_, rfl⟩
   have HM := Lib.hid hm
   rw [hm] at hll
   rw [hm]
   clear hm
   go_wp2
   go_loopw [4, 6] (fun v4 v6 wi => ∃ (i : Nat) (E2 : Es) (L2 : List Tri3) (ag : Bool), v4 = .bool ag ∧ v6 = .int .i64 i ∧ i ≤ m ∧ HoldsMap eW eT okW wi b E2 ∧ Hid (RSt W H D L E2 L2) ∧ Hid ((i = 0 ∧ ag = false ∧ E2 = E1 ∧ L2 = L1) ∨ (0 < i ∧ ag = true ∧ volS h L2 < volS h L1)) ∧ RowAt cW 5 wi a l ∧ w.grownBy wi (some b)) (fun _ v6 _ => m - (intOf v6).toNat)
   case atStart => exact ⟨0, E1, L1, false, rfl, rfl, Nat.zero_le _, H2, hS, Lib.hid (.inl ⟨rfl, rfl, rfl, rfl⟩), hr, g2⟩
   case round =>
    clear g2 H2 hr
    obtain ⟨i, E2, L2, ag, rfl, rfl, hi, H2, hS2, hC, hr, g2⟩ := hrel
    have hm1 := hll.out
    by_cases hlt : i < m
    ·have hil : i < l.length := by rw [HM.out]; exact hlt
     have B2 := Bm.turn Hm g2
     have D2 := Dw.turn Hm g2
     obtain ⟨ad, A, ea, eA, hA⟩ := hr.five (j := i) hil
     have hmem : l[i] ∈ badsD E1 D E1 := HLB.out.mem_iff.1 (List.getElem_mem hil)
     generalize l[i] = X at hA hmem
     obtain ⟨XA, XB, XK⟩ := X
     have hk2 : okW (XA, XB) := by
      unfold badsD at hmem
      rw [List.mem_filterMap] at hmem
      obtain ⟨e, he, hx⟩ := hmem
      split at hx
      ·simp only [Option.some.injEq, Wl.mk.injEq] at hx
       have := zJ5 hS.out.good e he
       rw [← hx.1, ← hx.2.1]; exact this
      ·cases hx
     have HBAD := Lib.hid (show badD E1 D XA XB = true by
      unfold badsD at hmem
      rw [List.mem_filterMap] at hmem
      obtain ⟨e, he, hx⟩ := hmem
      split at hx
      ·rename_i hc
       simp only [Option.some.injEq, Wl.mk.injEq] at hx
       simp only [Bool.and_eq_true] at hc
       rw [← hx.1, ← hx.2.1]; exact hc.2
      ·cases hx)
     have q0 : (i : Int) < (m : Int) := by omega
     obtain ⟨s0, s1, s2, s3, s4⟩ := hA.cells
     have cb : ∀ d os, Calls Tryz.prog 112 #[.pointer (some ⟨mb, 0, none⟩), .pointer (some ⟨db, 0, none⟩), .agg #[.int .i64 XA.x, .int .i64 XA.y], .agg #[.int .i64 XB.x, .int .i64 XB.y]] (grow (redrawn wr d) os) fun e w' => e = .returned (.bool (badD E2 D XA XB)) ∧ Below (grow (redrawn wr d) os).heap.size (grow (redrawn wr d) os) w' := fun d os => zIq mb b db a0 c n E2 D XA XB hk2 _ (B2.ext (below_regrown wr d os) rfl) (H2.ext (below_regrown wr d os) rfl) (D2.ext (below_regrown wr d os) rfl)
     clear hmem
     subst ea
     cases hbd : badD E2 D XA XB with
     | false =>
      rw [hbd] at cb
      have HNZ := Lib.hid (show 0 < i ∧ ag = true ∧ volS h L2 < volS h L1 by
       rcases hC.out with ⟨_, _, e1, _⟩ | k
       ·rw [e1, HBAD.out] at hbd; cases hbd
       ·exact k)
      clear hC HBAD hA hbd
      go_wp2_with fail
      refine wp_region_tail 25 (by kernel_rfl) (by kernel_rfl) (C := fun w' => ∃ p : Regrown, w' = grow (redrawn wr p.d) p.os) rgB ?_
      simp only [tK1, tK0, dP1, dP0]
      repeat (first | (refine zA0 (Eq.refl false) ?_; simp only [Act.put, sT2, sT1, sT0]) | (refine rWalk_step (fun K hK => ?_); go_simp; first | (refine hK _ ?_; clear hK K) | (apply Exists.intro; refine ⟨fun _ => ?_, hK _ ?_⟩; (first | with_reducible exact toExtD cb _ _); clear hK K)))
      refine rWalk_nil ?_
      intro w4 hb
      clear s0 s1 s2 s3 s4
      have H4 := H2.ee hb
      have r4 := hr.ee hb
      have g4 := zAa g2 hb
      clear hb cb
      go_wp2
      go_roundw
      case rel => exact ⟨i + 1, E2, L2, true, by rw [HNZ.out.2.1], by go_num, by omega, H4, hS2, Lib.hid (.inr ⟨by omega, rfl, HNZ.out.2.2⟩), r4, g4⟩
      case measure => simp [intOf]; omega
     | true =>
      rw [hbd] at cb
      obtain ⟨S, R, U, V, C, D', fl, L3, g3, t3, k3, v3⟩ := bad_go hW hH hh hS2.out.good hS2.out.tiles hbd
      have HS3 := Lib.hid (show RSt W H D L (flipE E2 S R U V) L3 from ⟨g3, t3, hS2.out.kept.trans k3⟩)
      have HV3 := Lib.hid (show volS h L3 < volS h L1 by
       rcases hC.out with ⟨_, _, _, e2⟩ | ⟨_, _, k⟩
       ·rw [← e2]; exact v3
       ·omega)
      have cf := fun w0 B1 H1 => rflip_ok mb b E2 XA XB hk2 S R U V C D' fl.h0 fl.h1 fl.hC fl.hD fl.o1 fl.o2 fl.hU fl.hV fl.he fl.hf fl.hc fl.hS fl.hR fl.hu fl.hv fl.f1 fl.f2 w0 B1 H1
      change ∀ (w0 : World) B1 H1, Calls _ _ _ _ fun e w' => e = .returned (.int .i64 0) ∧ w0.grownBy w' (some b) ∧ HoldsMap eW eT okW w' b (flipE E2 S R U V) at cf
      clear hC HBAD hA hbd fl g3 t3 k3 v3
      generalize flipE E2 S R U V = E3 at *
      go_wp2_with fail
      refine wp_region_tail 25 (by kernel_rfl) (by kernel_rfl) (C := fun w' => ∃ p : Regrown, w' = grow (redrawn wr p.d) p.os) rgB ?_
      simp only [tK1, tK0, dP1, dP0]
      repeat (first | (refine zA0 (Eq.refl false) ?_; simp only [Act.put, sT2, sT1, sT0]) | (refine rWalk_step (fun K hK => ?_); go_simp; first | (refine hK _ ?_; clear hK K) | (apply Exists.intro; refine ⟨fun _ => ?_, hK _ ?_⟩; (first | with_reducible exact toExtD cb _ _); clear hK K)))
      refine rWalk_nil ?_
      intro w4 hb
      clear s0 s1 s2 s3 s4
      have H4 := H2.ee hb
      have r4 := hr.ee hb
      have g4 := zAa g2 hb
      have B4 := B2.ee hb
      clear hb cb
      go_wp2_with fail
      refine (cf _ B4 H4).mono ?_
      rintro e w5 ⟨rfl, hg5, H5⟩
      have r5 := r4.turn cW_ne H4 hg5
      have g5 := zA9 g4 hg5
      clear cf hg5 H4 r4 g4 B4
      go_wp2
      go_roundw
      case rel => exact ⟨i + 1, E3, L3, true, rfl, by go_num, by omega, H5, HS3, Lib.hid (.inr ⟨by omega, rfl, HV3.out⟩), r5, g5⟩
      case measure => simp [intOf]; omega
    ·have q0 : decide ((i : Int) < (m : Int)) = false := by simpa using hlt
     have him : i = m := by omega
     have HE := Lib.hid (show (ag = false → Fixed W H (wll D) L2) by
      intro e
      rcases hC.out with ⟨e0, _, _, e2⟩ | ⟨_, e1, _⟩
      ·have l0 : l = [] := List.length_eq_zero_iff.1 (by rw [HM.out, ← him, e0])
       rw [e2]
       exact none_bad hW hH hS.out.good hS.out.tiles (List.Perm.eq_nil (by have := HLB.out; rw [l0] at this; exact this.symm))
      ·rw [e] at e1; cases e1)
     have HT := Lib.hid (show (ag = true → (volS h L2).toNat < (volS h L1).toNat) by
      intro e
      rcases hC.out with ⟨_, e1, _, _⟩ | ⟨_, _, k⟩
      ·rw [e] at e1; cases e1
      ·have := hS2.out.tiles.vols hW hH hh; omega)
     clear hC
     go_wp2
     go_roundg (volS h L1).toNat
     case measure => exact HV.out
     case rel => exact ⟨E2, L2, ag, rfl, H2, hS2, HE, HT, g2⟩
def cutOk (T : Tri3) (p : Pt) : Bool := hasP T p && (!peqI p.x p.y T.A.x T.A.y && (!peqI p.x p.y T.B.x T.B.y && !peqI p.x p.y T.C.x T.C.y))
def cutR (T : Tri3) (p : Pt) : List Tri3 := if cutOk T p = true then cutP p T else []
def cutK (p : Pt) (T : Tri3) : Nat → List Tri3
 | 0 => []
 | k + 1 => cutK p T k ++ part p (crn T k) (crn T (k + 1))
theorem cutK3 (p : Pt) (T : Tri3) : cutK p T 3 = cutP p T := by
 show (([] ++ part p T.A T.B) ++ part p T.B T.C) ++ part p T.C T.A = _
 unfold cutP
 simp
theorem zG4 (p a b : Pt) : (part p a b).length ≤ 1 := by unfold part; split <;> simp
theorem zGg (p : Pt) (T : Tri3) : ∀ k, (cutK p T k).length ≤ k
 | 0 => by simp [cutK]
 | k + 1 => by
  have := zGg p T k
  have := zG4 p (crn T k) (crn T (k + 1))
  show (cutK p T k ++ _).length ≤ _
  rw [List.length_append]; omega
theorem zJb (p : Pt) (T : Tri3) : (cutP p T).length ≤ 3 := by
 unfold cutP
 have := zG4 p T.A T.B
 have := zG4 p T.B T.C
 have := zG4 p T.C T.A
 simp only [List.length_append]; omega
theorem rcut_no0 (T : Tri3) (p : Pt) (h0 : hasP T p = false) (w : World) :
    Calls Tryz.prog 34 #[.agg #[.int .i64 T.A.x, .int .i64 T.A.y, .int .i64 T.B.x, .int .i64 T.B.y, .int .i64 T.C.x, .int .i64 T.C.y], .agg #[.int .i64 p.x, .int .i64 p.y]] w fun e w' => ∃ a cap, e = .returned (.slice a 0 cap) ∧ RowAt cT 6 w' a [] ∧ Below w.heap.size w w' := by
 have cH := zCu T p
 rw [h0] at cH
 clear h0
 go_enter Tryz.func34, Tryz.ntmps34
 go_wp2_with fail
 refine zA2 fun W1 hW => ?_
 have Bt : Box W1 (w.heap.size) [.int .i64 T.A.x, .int .i64 T.A.y, .int .i64 T.B.x, .int .i64 T.B.y, .int .i64 T.C.x, .int .i64 T.C.y] 38 := by rw [hW]; exact (Box.new rfl).old _
 have Ba : Box W1 (w.heap.size + 1) [.int .i64 p.x, .int .i64 p.y] 30 := by rw [hW]; exact Box.new (by simp)
 have hw : Below w.heap.size w W1 := by rw [hW]; go_grown
 clear hW
 refine wp_loop_rounds 2 ?_
 try rw [rounds_succ]
 have F_ta := J2 Bt.f Ba.f
 go_wp2_with fail
 refine (cH _).mono ?_
 rintro e w2 ⟨rfl, hb⟩
 clear F_ta
 replace Bt := Bt.ee hb
 replace Ba := Ba.ee hb
 replace hw := upB hw hb
 clear hb
 have F_ta := J2 Bt.f Ba.f
 go_wp2_with fail
 refine (zBs none 0 0 [] (Lib.hid rfl) (by omega) (by omega) _ (fun j x hx => by cases hx)).mono ?_
 rintro e w9 ⟨a, cap, rfl, hr, hb⟩
 have e0 : srt cmpT ([] : List Tri3) = [] := List.length_eq_zero_iff.1 (by rw [(zAp _).length_eq]; rfl)
 rw [e0] at hr
 go_wp2
 go_ret
 exact ⟨a, cap, rfl, hr, (upB hw hb)⟩
theorem rcut_no1 (T : Tri3) (p : Pt) (h0 : hasP T p = true) (h1 : peqI p.x p.y T.A.x T.A.y = true) (w : World) :
    Calls Tryz.prog 34 #[.agg #[.int .i64 T.A.x, .int .i64 T.A.y, .int .i64 T.B.x, .int .i64 T.B.y, .int .i64 T.C.x, .int .i64 T.C.y], .agg #[.int .i64 p.x, .int .i64 p.y]] w fun e w' => ∃ a cap, e = .returned (.slice a 0 cap) ∧ RowAt cT 6 w' a [] ∧ Below w.heap.size w w' := by
 have cH := zCu T p
 rw [h0] at cH
 clear h0
 go_enter Tryz.func34, Tryz.ntmps34
 go_wp2_with fail
 refine zA2 fun W1 hW => ?_
 have Bt : Box W1 (w.heap.size) [.int .i64 T.A.x, .int .i64 T.A.y, .int .i64 T.B.x, .int .i64 T.B.y, .int .i64 T.C.x, .int .i64 T.C.y] 38 := by rw [hW]; exact (Box.new rfl).old _
 have Ba : Box W1 (w.heap.size + 1) [.int .i64 p.x, .int .i64 p.y] 30 := by rw [hW]; exact Box.new (by simp)
 have hw : Below w.heap.size w W1 := by rw [hW]; go_grown
 clear hW
 refine wp_loop_rounds 2 ?_
 try rw [rounds_succ]
 have F_ta := J2 Bt.f Ba.f
 go_wp2_with fail
 refine (cH _).mono ?_
 rintro e w2 ⟨rfl, hb⟩
 clear F_ta
 replace Bt := Bt.ee hb
 replace Ba := Ba.ee hb
 replace hw := upB hw hb
 clear hb
 have F_ta := J2 Bt.f Ba.f
 go_wp2_with fail
 refine (zBs none 0 0 [] (Lib.hid rfl) (by omega) (by omega) _ (fun j x hx => by cases hx)).mono ?_
 rintro e w9 ⟨a, cap, rfl, hr, hb⟩
 have e0 : srt cmpT ([] : List Tri3) = [] := List.length_eq_zero_iff.1 (by rw [(zAp _).length_eq]; rfl)
 rw [e0] at hr
 go_wp2
 go_ret
 exact ⟨a, cap, rfl, hr, (upB hw hb)⟩
theorem rcut_no2 (T : Tri3) (p : Pt) (h0 : hasP T p = true) (h1 : peqI p.x p.y T.A.x T.A.y = false) (h2 : peqI p.x p.y T.B.x T.B.y = true) (w : World) :
    Calls Tryz.prog 34 #[.agg #[.int .i64 T.A.x, .int .i64 T.A.y, .int .i64 T.B.x, .int .i64 T.B.y, .int .i64 T.C.x, .int .i64 T.C.y], .agg #[.int .i64 p.x, .int .i64 p.y]] w fun e w' => ∃ a cap, e = .returned (.slice a 0 cap) ∧ RowAt cT 6 w' a [] ∧ Below w.heap.size w w' := by
 have cH := zCu T p
 rw [h0] at cH
 clear h0
 go_enter Tryz.func34, Tryz.ntmps34
 go_wp2_with fail
 refine zA2 fun W1 hW => ?_
 have Bt : Box W1 (w.heap.size) [.int .i64 T.A.x, .int .i64 T.A.y, .int .i64 T.B.x, .int .i64 T.B.y, .int .i64 T.C.x, .int .i64 T.C.y] 38 := by rw [hW]; exact (Box.new rfl).old _
 have Ba : Box W1 (w.heap.size + 1) [.int .i64 p.x, .int .i64 p.y] 30 := by rw [hW]; exact Box.new (by simp)
 have hw : Below w.heap.size w W1 := by rw [hW]; go_grown
 clear hW
 refine wp_loop_rounds 2 ?_
 try rw [rounds_succ]
 have F_ta := J2 Bt.f Ba.f
 go_wp2_with fail
 refine (cH _).mono ?_
 rintro e w2 ⟨rfl, hb⟩
 clear F_ta
 replace Bt := Bt.ee hb
 replace Ba := Ba.ee hb
 replace hw := upB hw hb
 clear hb
 have F_ta := J2 Bt.f Ba.f
 go_wp2_with fail
 refine (zBs none 0 0 [] (Lib.hid rfl) (by omega) (by omega) _ (fun j x hx => by cases hx)).mono ?_
 rintro e w9 ⟨a, cap, rfl, hr, hb⟩
 have e0 : srt cmpT ([] : List Tri3) = [] := List.length_eq_zero_iff.1 (by rw [(zAp _).length_eq]; rfl)
 rw [e0] at hr
 go_wp2
 go_ret
 exact ⟨a, cap, rfl, hr, (upB hw hb)⟩
theorem rcut_no3 (T : Tri3) (p : Pt) (h0 : hasP T p = true) (h1 : peqI p.x p.y T.A.x T.A.y = false) (h2 : peqI p.x p.y T.B.x T.B.y = false) (h3 : peqI p.x p.y T.C.x T.C.y = true) (w : World) :
    Calls Tryz.prog 34 #[.agg #[.int .i64 T.A.x, .int .i64 T.A.y, .int .i64 T.B.x, .int .i64 T.B.y, .int .i64 T.C.x, .int .i64 T.C.y], .agg #[.int .i64 p.x, .int .i64 p.y]] w fun e w' => ∃ a cap, e = .returned (.slice a 0 cap) ∧ RowAt cT 6 w' a [] ∧ Below w.heap.size w w' := by
 have cH := zCu T p
 rw [h0] at cH
 clear h0
 go_enter Tryz.func34, Tryz.ntmps34
 go_wp2_with fail
 refine zA2 fun W1 hW => ?_
 have Bt : Box W1 (w.heap.size) [.int .i64 T.A.x, .int .i64 T.A.y, .int .i64 T.B.x, .int .i64 T.B.y, .int .i64 T.C.x, .int .i64 T.C.y] 38 := by rw [hW]; exact (Box.new rfl).old _
 have Ba : Box W1 (w.heap.size + 1) [.int .i64 p.x, .int .i64 p.y] 30 := by rw [hW]; exact Box.new (by simp)
 have hw : Below w.heap.size w W1 := by rw [hW]; go_grown
 clear hW
 refine wp_loop_rounds 2 ?_
 try rw [rounds_succ]
 have F_ta := J2 Bt.f Ba.f
 go_wp2_with fail
 refine (cH _).mono ?_
 rintro e w2 ⟨rfl, hb⟩
 clear F_ta
 replace Bt := Bt.ee hb
 replace Ba := Ba.ee hb
 replace hw := upB hw hb
 clear hb
 have F_ta := J2 Bt.f Ba.f
 go_wp2_with fail
 refine (zBs none 0 0 [] (Lib.hid rfl) (by omega) (by omega) _ (fun j x hx => by cases hx)).mono ?_
 rintro e w9 ⟨a, cap, rfl, hr, hb⟩
 have e0 : srt cmpT ([] : List Tri3) = [] := List.length_eq_zero_iff.1 (by rw [(zAp _).length_eq]; rfl)
 rw [e0] at hr
 go_wp2
 go_ret
 exact ⟨a, cap, rfl, hr, (upB hw hb)⟩
theorem rcut_yes (T : Tri3) (p : Pt) (h0 : hasP T p = true) (h1 : peqI p.x p.y T.A.x T.A.y = false) (h2 : peqI p.x p.y T.B.x T.B.y = false) (h3 : peqI p.x p.y T.C.x T.C.y = false) (w : World) :
    Calls Tryz.prog 34 #[.agg #[.int .i64 T.A.x, .int .i64 T.A.y, .int .i64 T.B.x, .int .i64 T.B.y, .int .i64 T.C.x, .int .i64 T.C.y], .agg #[.int .i64 p.x, .int .i64 p.y]] w fun e w' => ∃ a cap, e = .returned (.slice a (srt cmpT (cutP p T)).length cap) ∧ RowAt cT 6 w' a (srt cmpT (cutP p T)) ∧ Below w.heap.size w w' := by
 have cH := zCu T p
 rw [h0] at cH
 clear h0
 go_enter Tryz.func34, Tryz.ntmps34
 go_wp2_with fail
 refine zA2 fun W1 hW => ?_
 have Bt : Box W1 (w.heap.size) [.int .i64 T.A.x, .int .i64 T.A.y, .int .i64 T.B.x, .int .i64 T.B.y, .int .i64 T.C.x, .int .i64 T.C.y] 38 := by rw [hW]; exact (Box.new rfl).old _
 have Ba : Box W1 (w.heap.size + 1) [.int .i64 p.x, .int .i64 p.y] 30 := by rw [hW]; exact Box.new (by simp)
 have hw : Below w.heap.size w W1 := by rw [hW]; go_grown
 clear hW
 go_loopw [5, 6] (fun v i wr => ∃ (k : Nat) (j : Int), k ≤ 3 ∧ i = .int .i64 j ∧ Hid (j = k) ∧ wr.ownsRow (w.heap.size + 2) 38 6 v (cutK p T k).length ((cutK p T k).flatMap cT) ∧ Box wr (w.heap.size) [.int .i64 T.A.x, .int .i64 T.A.y, .int .i64 T.B.x, .int .i64 T.B.y, .int .i64 T.C.x, .int .i64 T.C.y] 38 ∧ Box wr (w.heap.size + 1) [.int .i64 p.x, .int .i64 p.y] 30 ∧ Below w.heap.size w wr) (fun _ i _ => 3 - (intOf i).toNat)
 case atStart => exact ⟨0, 0, by omega, rfl, Lib.hid rfl, World.ownsRow_nil _ _ _ _, Bt, Ba, hw⟩
 case round =>
  clear Bt Ba hw
  obtain ⟨k, j, hk, rfl, hj, hown, Bt, Ba, hw⟩ := hrel
  have hk' : k = 0 ∨ k = 1 ∨ k = 2 ∨ k = 3 := by omega
  rcases hk' with rfl | rfl | rfl | rfl
  ·have hj : j = 0 := by simpa using hj.out
   subst hj
   have hq1 : IntKind.i64.wrap (0 + 1) = 1 := by decide
   have hq2 : IntKind.i64.wrap 1 = 1 := by decide
   have c1 := zAj T 0
   have c2 := zAj T 1
   have c3 := zBn (crn T 0) (crn T 1) p
   have hst : cutK p T (0 + 1) = cutK p T 0 ++ part p (crn T 0) (crn T 1) := rfl
   have hle := zGg p T 0
   have HST := Lib.hid hst
   have HLE := Lib.hid hle
   clear hst hle
   generalize eu : crn T 0 = u at *
   generalize ev : crn T 1 = v at *
   clear eu ev
   obtain ⟨L1, hL1⟩ : ∃ L1, cutK p T 1 = L1 := ⟨_, rfl⟩
   have HL1 := Lib.hid hL1
   rw [show cutK p T (0 + 1) = L1 from hL1] at HST
   clear hL1
   generalize cutK p T 0 = L0 at *
   have Ft := Bt.f
   have Fa := Ba.f
   go_wp2_with fail
   refine (cH _).mono ?_
   rintro e w21 ⟨rfl, hb⟩
   clear Ft Fa
   replace Bt := Bt.ee hb
   replace Ba := Ba.ee hb
   replace hown := zD3 hown hb
   replace hw := upB hw hb
   clear hb
   by_cases h0 : ori u v p = 0
   ·rw [show (!decide (ori u v p = 0)) = false by simp [h0]] at c3
    have HL := Lib.hid (show L1 = L0 by rw [HST.out]; unfold part; rw [if_pos h0]; simp)
    generalize mk u v p = X at *
    clear h0 HST
    have Ft := Bt.f
    have Fa := Ba.f
    go_wp2_with fail
    have gt := Bt.cells
    have ga := Ba.cells
    refine zA3 12 7 46 [.int .i64 X.A.x, .int .i64 X.A.y, .int .i64 X.B.x, .int .i64 X.B.y, .int .i64 X.C.x, .int .i64 X.C.y] (zs := [.int .i64 0, .int .i64 0, .int .i64 0, .int .i64 0, .int .i64 0, .int .i64 0]) (eff := eff6 (.int .i64 X.A.x) (.int .i64 X.A.y) (.int .i64 X.B.x) (.int .i64 X.B.y) (.int .i64 X.C.x) (.int .i64 X.C.y)) zAe rfl rfl rfl rfl rfl rfl rfl (by simp) (fun ρ W => by simp [execOp, go_sem]; rfl) (by kernel_rfl) (by as_aux_lemma => kernel_rfl) (C := fun w' => ∃ p : Regrown, w' = grow (redrawn w21 p.d) p.os) rgB ?_ (fun ρ W b e1 e2 hB => by obtain ⟨x, y, _, _⟩ := hB.f; simp [execOp, go_sem, e1, e2, x, y, eff6])
    simp only [tK1, tK0, dP1, dP0]
    repeat (first | (refine zA0 (Eq.refl false) ?_; simp only [Act.put, sT2, sT1, sT0]) | (refine rWalk_step (fun K hK => ?_); go_simp; first | (refine hK _ ?_; clear hK K) | (apply Exists.intro; refine ⟨fun _ => ?_, hK _ ?_⟩; (first | with_reducible exact toExt c1 _ | with_reducible exact toExt c2 _ | with_reducible exact toExt c3 _); clear hK K)))
    refine rWalk_nil ⟨rfl, ?_⟩
    intro w41 bkz hb h1b h2b Bz
    have ltz := Bt.lt
    have laz := Ba.lt
    have hw0z := hw.size
    clear gt ga
    clear Ft Fa
    replace Bt := Bt.ee hb
    replace Ba := Ba.ee hb
    replace hw := upB hw hb
    have fz := h1b
    have hwz : w.heap.size ≤ w21.heap.size := hw0z
    replace hown := zD3 hown hb
    clear hb h1b h2b hw0z
    simp only [Act.put]
    have Ft := Bt.f
    have Fa := Ba.f
    have Fz := Bz.f
    go_wp2
    go_roundw
    case rel => exact ⟨1, 1, by omega, by first | rfl | go_num, Lib.hid rfl, by rw [HL1.out, HL.out]; exact hown, Bt, Ba, hw⟩
    case measure => simp [intOf]
   ·rw [show (!decide (ori u v p = 0)) = true by simp [h0]] at c3
    have HL := Lib.hid (show L1 = L0 ++ [mk u v p] by rw [HST.out]; unfold part; rw [if_neg h0])
    generalize mk u v p = X at *
    clear h0 HST
    have Ft := Bt.f
    have Fa := Ba.f
    go_wp2_with fail
    have gt := Bt.cells
    have ga := Ba.cells
    refine zA3 12 7 46 [.int .i64 X.A.x, .int .i64 X.A.y, .int .i64 X.B.x, .int .i64 X.B.y, .int .i64 X.C.x, .int .i64 X.C.y] (zs := [.int .i64 0, .int .i64 0, .int .i64 0, .int .i64 0, .int .i64 0, .int .i64 0]) (eff := eff6 (.int .i64 X.A.x) (.int .i64 X.A.y) (.int .i64 X.B.x) (.int .i64 X.B.y) (.int .i64 X.C.x) (.int .i64 X.C.y)) zAe rfl rfl rfl rfl rfl rfl rfl (by simp) (fun ρ W => by simp [execOp, go_sem]; rfl) (by kernel_rfl) (by as_aux_lemma => kernel_rfl) (C := fun w' => ∃ p : Regrown, w' = grow (redrawn w21 p.d) p.os) rgB ?_ (fun ρ W b e1 e2 hB => by obtain ⟨x, y, _, _⟩ := hB.f; simp [execOp, go_sem, e1, e2, x, y, eff6])
    simp only [tK1, tK0, dP1, dP0]
    repeat (first | (refine zA0 (Eq.refl false) ?_; simp only [Act.put, sT2, sT1, sT0]) | (refine rWalk_step (fun K hK => ?_); go_simp; first | (refine hK _ ?_; clear hK K) | (apply Exists.intro; refine ⟨fun _ => ?_, hK _ ?_⟩; (first | with_reducible exact toExt c1 _ | with_reducible exact toExt c2 _ | with_reducible exact toExt c3 _); clear hK K)))
    refine rWalk_nil ⟨rfl, ?_⟩
    intro w41 bkz hb h1b h2b Bz
    have ltz := Bt.lt
    have laz := Ba.lt
    have hw0z := hw.size
    clear gt ga
    clear Ft Fa
    replace Bt := Bt.ee hb
    replace Ba := Ba.ee hb
    replace hw := upB hw hb
    have fz := h1b
    have hwz : w.heap.size ≤ w21.heap.size := hw0z
    replace hown := zD3 hown hb
    clear hb h1b h2b hw0z
    simp only [Act.put]
    have Ft := Bt.f
    have Fa := Ba.f
    have Fz := Bz.f
    have HB := Lib.hid hw.size
    go_wp2_with (at_builtin; refine zAz rfl _ _ rfl (w.heap.size + 2) _ L0 rfl (hown.alloc _) (w41.heap.size) X rfl (Box.new (by simp)) (by have := HLE.out; omega) (by have := HB.out; have := Ba.lt; simp; omega) ?_; intro w4 v4 hown4 hg4)
    have hlt := fun k hk => ((hown.alloc (.cells (cT X).toArray 38)).lt k hk).1
    have Bt4 := (Bt.old (.cells (cT X).toArray 38)).grown2 hg4 (fun k hk => by have := hlt k hk; omega)
    have Ba4 := (Ba.old (.cells (cT X).toArray 38)).grown2 hg4 (fun k hk => by have := hlt k hk; omega)
    have hw4 := (hw.alloc hw.size (.cells (cT X).toArray 38)).grown hg4 (by have := hw.size; simp; omega) (fun k hk => by have := hlt k hk; omega)
    go_roundw
    case rel => exact ⟨1, 1, by omega, by first | rfl | go_num, Lib.hid rfl, by rw [HL1.out, HL.out]; exact hown4, Bt4, Ba4, hw4⟩
    case measure => simp [intOf]
  ·have hj : j = 1 := by simpa using hj.out
   subst hj
   have hq1 : IntKind.i64.wrap (1 + 1) = 2 := by decide
   have hq2 : IntKind.i64.wrap 2 = 2 := by decide
   have c1 := zAj T 1
   have c2 := zAj T 2
   have c3 := zBn (crn T 1) (crn T 2) p
   have hst : cutK p T (1 + 1) = cutK p T 1 ++ part p (crn T 1) (crn T 2) := rfl
   have hle := zGg p T 1
   have HST := Lib.hid hst
   have HLE := Lib.hid hle
   clear hst hle
   generalize eu : crn T 1 = u at *
   generalize ev : crn T 2 = v at *
   clear eu ev
   obtain ⟨L1, hL1⟩ : ∃ L1, cutK p T 2 = L1 := ⟨_, rfl⟩
   have HL1 := Lib.hid hL1
   rw [show cutK p T (1 + 1) = L1 from hL1] at HST
   clear hL1
   generalize cutK p T 1 = L0 at *
   have Ft := Bt.f
   have Fa := Ba.f
   go_wp2_with fail
   refine (cH _).mono ?_
   rintro e w21 ⟨rfl, hb⟩
   clear Ft Fa
   replace Bt := Bt.ee hb
   replace Ba := Ba.ee hb
   replace hown := zD3 hown hb
   replace hw := upB hw hb
   clear hb
   by_cases h0 : ori u v p = 0
   ·rw [show (!decide (ori u v p = 0)) = false by simp [h0]] at c3
    have HL := Lib.hid (show L1 = L0 by rw [HST.out]; unfold part; rw [if_pos h0]; simp)
    generalize mk u v p = X at *
    clear h0 HST
    have Ft := Bt.f
    have Fa := Ba.f
    go_wp2_with fail
    have gt := Bt.cells
    have ga := Ba.cells
    refine zA3 12 7 46 [.int .i64 X.A.x, .int .i64 X.A.y, .int .i64 X.B.x, .int .i64 X.B.y, .int .i64 X.C.x, .int .i64 X.C.y] (zs := [.int .i64 0, .int .i64 0, .int .i64 0, .int .i64 0, .int .i64 0, .int .i64 0]) (eff := eff6 (.int .i64 X.A.x) (.int .i64 X.A.y) (.int .i64 X.B.x) (.int .i64 X.B.y) (.int .i64 X.C.x) (.int .i64 X.C.y)) zAe rfl rfl rfl rfl rfl rfl rfl (by simp) (fun ρ W => by simp [execOp, go_sem]; rfl) (by kernel_rfl) (by as_aux_lemma => kernel_rfl) (C := fun w' => ∃ p : Regrown, w' = grow (redrawn w21 p.d) p.os) rgB ?_ (fun ρ W b e1 e2 hB => by obtain ⟨x, y, _, _⟩ := hB.f; simp [execOp, go_sem, e1, e2, x, y, eff6])
    simp only [tK1, tK0, dP1, dP0]
    repeat (first | (refine zA0 (Eq.refl false) ?_; simp only [Act.put, sT2, sT1, sT0]) | (refine rWalk_step (fun K hK => ?_); go_simp; first | (refine hK _ ?_; clear hK K) | (apply Exists.intro; refine ⟨fun _ => ?_, hK _ ?_⟩; (first | with_reducible exact toExt c1 _ | with_reducible exact toExt c2 _ | with_reducible exact toExt c3 _); clear hK K)))
    refine rWalk_nil ⟨rfl, ?_⟩
    intro w41 bkz hb h1b h2b Bz
    have ltz := Bt.lt
    have laz := Ba.lt
    have hw0z := hw.size
    clear gt ga
    clear Ft Fa
    replace Bt := Bt.ee hb
    replace Ba := Ba.ee hb
    replace hw := upB hw hb
    have fz := h1b
    have hwz : w.heap.size ≤ w21.heap.size := hw0z
    replace hown := zD3 hown hb
    clear hb h1b h2b hw0z
    simp only [Act.put]
    have Ft := Bt.f
    have Fa := Ba.f
    have Fz := Bz.f
    go_wp2
    go_roundw
    case rel => exact ⟨2, 2, by omega, by first | rfl | go_num, Lib.hid rfl, by rw [HL1.out, HL.out]; exact hown, Bt, Ba, hw⟩
    case measure => simp [intOf]
   ·rw [show (!decide (ori u v p = 0)) = true by simp [h0]] at c3
    have HL := Lib.hid (show L1 = L0 ++ [mk u v p] by rw [HST.out]; unfold part; rw [if_neg h0])
    generalize mk u v p = X at *
    clear h0 HST
    have Ft := Bt.f
    have Fa := Ba.f
    go_wp2_with fail
    have gt := Bt.cells
    have ga := Ba.cells
    refine zA3 12 7 46 [.int .i64 X.A.x, .int .i64 X.A.y, .int .i64 X.B.x, .int .i64 X.B.y, .int .i64 X.C.x, .int .i64 X.C.y] (zs := [.int .i64 0, .int .i64 0, .int .i64 0, .int .i64 0, .int .i64 0, .int .i64 0]) (eff := eff6 (.int .i64 X.A.x) (.int .i64 X.A.y) (.int .i64 X.B.x) (.int .i64 X.B.y) (.int .i64 X.C.x) (.int .i64 X.C.y)) zAe rfl rfl rfl rfl rfl rfl rfl (by simp) (fun ρ W => by simp [execOp, go_sem]; rfl) (by kernel_rfl) (by as_aux_lemma => kernel_rfl) (C := fun w' => ∃ p : Regrown, w' = grow (redrawn w21 p.d) p.os) rgB ?_ (fun ρ W b e1 e2 hB => by obtain ⟨x, y, _, _⟩ := hB.f; simp [execOp, go_sem, e1, e2, x, y, eff6])
    simp only [tK1, tK0, dP1, dP0]
    repeat (first | (refine zA0 (Eq.refl false) ?_; simp only [Act.put, sT2, sT1, sT0]) | (refine rWalk_step (fun K hK => ?_); go_simp; first | (refine hK _ ?_; clear hK K) | (apply Exists.intro; refine ⟨fun _ => ?_, hK _ ?_⟩; (first | with_reducible exact toExt c1 _ | with_reducible exact toExt c2 _ | with_reducible exact toExt c3 _); clear hK K)))
    refine rWalk_nil ⟨rfl, ?_⟩
    intro w41 bkz hb h1b h2b Bz
    have ltz := Bt.lt
    have laz := Ba.lt
    have hw0z := hw.size
    clear gt ga
    clear Ft Fa
    replace Bt := Bt.ee hb
    replace Ba := Ba.ee hb
    replace hw := upB hw hb
    have fz := h1b
    have hwz : w.heap.size ≤ w21.heap.size := hw0z
    replace hown := zD3 hown hb
    clear hb h1b h2b hw0z
    simp only [Act.put]
    have Ft := Bt.f
    have Fa := Ba.f
    have Fz := Bz.f
    have HB := Lib.hid hw.size
    go_wp2_with (at_builtin; refine zAz rfl _ _ rfl (w.heap.size + 2) _ L0 rfl (hown.alloc _) (w41.heap.size) X rfl (Box.new (by simp)) (by have := HLE.out; omega) (by have := HB.out; have := Ba.lt; simp; omega) ?_; intro w4 v4 hown4 hg4)
    have hlt := fun k hk => ((hown.alloc (.cells (cT X).toArray 38)).lt k hk).1
    have Bt4 := (Bt.old (.cells (cT X).toArray 38)).grown2 hg4 (fun k hk => by have := hlt k hk; omega)
    have Ba4 := (Ba.old (.cells (cT X).toArray 38)).grown2 hg4 (fun k hk => by have := hlt k hk; omega)
    have hw4 := (hw.alloc hw.size (.cells (cT X).toArray 38)).grown hg4 (by have := hw.size; simp; omega) (fun k hk => by have := hlt k hk; omega)
    go_roundw
    case rel => exact ⟨2, 2, by omega, by first | rfl | go_num, Lib.hid rfl, by rw [HL1.out, HL.out]; exact hown4, Bt4, Ba4, hw4⟩
    case measure => simp [intOf]
  ·have hj : j = 2 := by simpa using hj.out
   subst hj
   have hq1 : IntKind.i64.wrap (2 + 1) = 3 := by decide
   have hq2 : IntKind.i64.wrap 3 = 3 := by decide
   have c1 := zAj T 2
   have c2 := zAj T 3
   have c3 := zBn (crn T 2) (crn T 3) p
   have hst : cutK p T (2 + 1) = cutK p T 2 ++ part p (crn T 2) (crn T 3) := rfl
   have hle := zGg p T 2
   have HST := Lib.hid hst
   have HLE := Lib.hid hle
   clear hst hle
   generalize eu : crn T 2 = u at *
   generalize ev : crn T 3 = v at *
   clear eu ev
   obtain ⟨L1, hL1⟩ : ∃ L1, cutK p T 3 = L1 := ⟨_, rfl⟩
   have HL1 := Lib.hid hL1
   rw [show cutK p T (2 + 1) = L1 from hL1] at HST
   clear hL1
   generalize cutK p T 2 = L0 at *
   have Ft := Bt.f
   have Fa := Ba.f
   go_wp2_with fail
   refine (cH _).mono ?_
   rintro e w21 ⟨rfl, hb⟩
   clear Ft Fa
   replace Bt := Bt.ee hb
   replace Ba := Ba.ee hb
   replace hown := zD3 hown hb
   replace hw := upB hw hb
   clear hb
   by_cases h0 : ori u v p = 0
   ·rw [show (!decide (ori u v p = 0)) = false by simp [h0]] at c3
    have HL := Lib.hid (show L1 = L0 by rw [HST.out]; unfold part; rw [if_pos h0]; simp)
    generalize mk u v p = X at *
    clear h0 HST
    have Ft := Bt.f
    have Fa := Ba.f
    go_wp2_with fail
    have gt := Bt.cells
    have ga := Ba.cells
    refine zA3 12 7 46 [.int .i64 X.A.x, .int .i64 X.A.y, .int .i64 X.B.x, .int .i64 X.B.y, .int .i64 X.C.x, .int .i64 X.C.y] (zs := [.int .i64 0, .int .i64 0, .int .i64 0, .int .i64 0, .int .i64 0, .int .i64 0]) (eff := eff6 (.int .i64 X.A.x) (.int .i64 X.A.y) (.int .i64 X.B.x) (.int .i64 X.B.y) (.int .i64 X.C.x) (.int .i64 X.C.y)) zAe rfl rfl rfl rfl rfl rfl rfl (by simp) (fun ρ W => by simp [execOp, go_sem]; rfl) (by kernel_rfl) (by as_aux_lemma => kernel_rfl) (C := fun w' => ∃ p : Regrown, w' = grow (redrawn w21 p.d) p.os) rgB ?_ (fun ρ W b e1 e2 hB => by obtain ⟨x, y, _, _⟩ := hB.f; simp [execOp, go_sem, e1, e2, x, y, eff6])
    simp only [tK1, tK0, dP1, dP0]
    repeat (first | (refine zA0 (Eq.refl false) ?_; simp only [Act.put, sT2, sT1, sT0]) | (refine rWalk_step (fun K hK => ?_); go_simp; first | (refine hK _ ?_; clear hK K) | (apply Exists.intro; refine ⟨fun _ => ?_, hK _ ?_⟩; (first | with_reducible exact toExt c1 _ | with_reducible exact toExt c2 _ | with_reducible exact toExt c3 _); clear hK K)))
    refine rWalk_nil ⟨rfl, ?_⟩
    intro w41 bkz hb h1b h2b Bz
    have ltz := Bt.lt
    have laz := Ba.lt
    have hw0z := hw.size
    clear gt ga
    clear Ft Fa
    replace Bt := Bt.ee hb
    replace Ba := Ba.ee hb
    replace hw := upB hw hb
    have fz := h1b
    have hwz : w.heap.size ≤ w21.heap.size := hw0z
    replace hown := zD3 hown hb
    clear hb h1b h2b hw0z
    simp only [Act.put]
    have Ft := Bt.f
    have Fa := Ba.f
    have Fz := Bz.f
    go_wp2
    go_roundw
    case rel => exact ⟨3, 3, by omega, by first | rfl | go_num, Lib.hid rfl, by rw [HL1.out, HL.out]; exact hown, Bt, Ba, hw⟩
    case measure => simp [intOf]
   ·rw [show (!decide (ori u v p = 0)) = true by simp [h0]] at c3
    have HL := Lib.hid (show L1 = L0 ++ [mk u v p] by rw [HST.out]; unfold part; rw [if_neg h0])
    generalize mk u v p = X at *
    clear h0 HST
    have Ft := Bt.f
    have Fa := Ba.f
    go_wp2_with fail
    have gt := Bt.cells
    have ga := Ba.cells
    refine zA3 12 7 46 [.int .i64 X.A.x, .int .i64 X.A.y, .int .i64 X.B.x, .int .i64 X.B.y, .int .i64 X.C.x, .int .i64 X.C.y] (zs := [.int .i64 0, .int .i64 0, .int .i64 0, .int .i64 0, .int .i64 0, .int .i64 0]) (eff := eff6 (.int .i64 X.A.x) (.int .i64 X.A.y) (.int .i64 X.B.x) (.int .i64 X.B.y) (.int .i64 X.C.x) (.int .i64 X.C.y)) zAe rfl rfl rfl rfl rfl rfl rfl (by simp) (fun ρ W => by simp [execOp, go_sem]; rfl) (by kernel_rfl) (by as_aux_lemma => kernel_rfl) (C := fun w' => ∃ p : Regrown, w' = grow (redrawn w21 p.d) p.os) rgB ?_ (fun ρ W b e1 e2 hB => by obtain ⟨x, y, _, _⟩ := hB.f; simp [execOp, go_sem, e1, e2, x, y, eff6])
    simp only [tK1, tK0, dP1, dP0]
    repeat (first | (refine zA0 (Eq.refl false) ?_; simp only [Act.put, sT2, sT1, sT0]) | (refine rWalk_step (fun K hK => ?_); go_simp; first | (refine hK _ ?_; clear hK K) | (apply Exists.intro; refine ⟨fun _ => ?_, hK _ ?_⟩; (first | with_reducible exact toExt c1 _ | with_reducible exact toExt c2 _ | with_reducible exact toExt c3 _); clear hK K)))
    refine rWalk_nil ⟨rfl, ?_⟩
    intro w41 bkz hb h1b h2b Bz
    have ltz := Bt.lt
    have laz := Ba.lt
    have hw0z := hw.size
    clear gt ga
    clear Ft Fa
    replace Bt := Bt.ee hb
    replace Ba := Ba.ee hb
    replace hw := upB hw hb
    have fz := h1b
    have hwz : w.heap.size ≤ w21.heap.size := hw0z
    replace hown := zD3 hown hb
    clear hb h1b h2b hw0z
    simp only [Act.put]
    have Ft := Bt.f
    have Fa := Ba.f
    have Fz := Bz.f
    have HB := Lib.hid hw.size
    go_wp2_with (at_builtin; refine zAz rfl _ _ rfl (w.heap.size + 2) _ L0 rfl (hown.alloc _) (w41.heap.size) X rfl (Box.new (by simp)) (by have := HLE.out; omega) (by have := HB.out; have := Ba.lt; simp; omega) ?_; intro w4 v4 hown4 hg4)
    have hlt := fun k hk => ((hown.alloc (.cells (cT X).toArray 38)).lt k hk).1
    have Bt4 := (Bt.old (.cells (cT X).toArray 38)).grown2 hg4 (fun k hk => by have := hlt k hk; omega)
    have Ba4 := (Ba.old (.cells (cT X).toArray 38)).grown2 hg4 (fun k hk => by have := hlt k hk; omega)
    have hw4 := (hw.alloc hw.size (.cells (cT X).toArray 38)).grown hg4 (by have := hw.size; simp; omega) (fun k hk => by have := hlt k hk; omega)
    go_roundw
    case rel => exact ⟨3, 3, by omega, by first | rfl | go_num, Lib.hid rfl, by rw [HL1.out, HL.out]; exact hown4, Bt4, Ba4, hw4⟩
    case measure => simp [intOf]
  ·have hj : j = 3 := by simpa using hj.out
   subst hj
   rw [cutK3 p T] at hown
   obtain ⟨a1, c1, rfl, hc1, hr1⟩ := zAs zGk hown
   have hle := zJb p T
   have hlen := Lib.hid (show (cutP p T).length = (srt cmpT (cutP p T)).length from (zAp _).length_eq.symm)
   have Ft := Bt.f
   have Fa := Ba.f
   go_wp2_with fail
   refine (zBs _ _ _ _ (Lib.hid rfl) (by omega) hc1 _ hr1).mono ?_
   rintro e w9 ⟨a, cap, rfl, hr, hb⟩
   go_wp2
   go_ret
   exact ⟨a, cap, by rw [hlen.out]; rfl, hr, (upB hw hb)⟩
theorem rcut_any (T : Tri3) (p : Pt) (w : World) :
    Calls Tryz.prog 34 #[.agg #[.int .i64 T.A.x, .int .i64 T.A.y, .int .i64 T.B.x, .int .i64 T.B.y, .int .i64 T.C.x, .int .i64 T.C.y], .agg #[.int .i64 p.x, .int .i64 p.y]] w fun e w' => ∃ a cap, e = .returned (.slice a (srt cmpT (cutR T p)).length cap) ∧ RowAt cT 6 w' a (srt cmpT (cutR T p)) ∧ Below w.heap.size w w' := by
 unfold cutR cutOk
 have z : srt cmpT ([] : List Tri3) = [] := List.length_eq_zero_iff.1 (by rw [(zAp _).length_eq]; rfl)
 cases h0 : hasP T p with
 | false => simpa [z] using rcut_no0 T p h0 w
 | true =>
  cases h1 : peqI p.x p.y T.A.x T.A.y with
  | true => simpa [z] using rcut_no1 T p h0 h1 w
  | false =>
   cases h2 : peqI p.x p.y T.B.x T.B.y with
   | true => simpa [z] using rcut_no2 T p h0 h1 h2 w
   | false =>
    cases h3 : peqI p.x p.y T.C.x T.C.y with
    | true => simpa [z] using rcut_no3 T p h0 h1 h2 h3 w
    | false => simpa using rcut_yes T p h0 h1 h2 h3 w
def starE (p : Pt) (E : Es) : List Tri3 := (E.filter fun e => decide (e.1.1 = p)).map (·.2)
theorem zGo {p : Pt} {E F : Es} (h : E.Perm F) : (starE p E).Perm (starE p F) := (h.filter _).map _
theorem zD4 (p : Pt) (E F : Es) : starE p (E ++ F) = starE p E ++ starE p F := by unfold starE; rw [List.filter_append, List.map_append]
theorem zHj (p : Pt) (E : Es) : (starE p E).length ≤ E.length := by unfold starE; rw [List.length_map]; exact List.length_filter_le _ _
theorem starE_yes {p : Pt} {e : (Pt × Pt) × Tri3} (h : e.1.1 = p) : starE p [e] = [e.2] := by simp [starE, h]
theorem starE_no {p : Pt} {e : (Pt × Pt) × Tri3} (h : ¬ e.1.1 = p) : starE p [e] = [] := by simp [starE, h]
theorem zHk (mb b : Nat) (E : Es) (p : Pt) (hE : E.length ≤ 1000000) (w : World) (Bm : Box w mb [.map (some b)] 41) (Hm : HoldsMap eW eT okW w b E) :
    Calls Tryz.prog 26 #[.pointer (some ⟨mb, 0, none⟩), .agg #[.int .i64 p.x, .int .i64 p.y]] w fun e w' => ∃ a cap, e = .returned (.slice a (srt cmpT (starE p E)).length cap) ∧ RowAt cT 6 w' a (srt cmpT (starE p E)) ∧ Below w.heap.size w w' := by
 have Fm := Bm.f
 go_enter Tryz.func26, Tryz.ntmps26
 go_wp2_with (at_range; refine zB7 _ rfl _ rfl kvR rfl (Hm.alloc _) ?_)
 intro w0 HR0 hw0 hs0
 have Bp0 : Box w0 w.heap.size [.int .i64 p.x, .int .i64 p.y] 30 := (Box.new rfl).ext hw0 (by simp)
 replace hw0 : Below w.heap.size w w0 := ((Below.refl w.heap.size w).alloc (Nat.le_refl _) _).trans (hw0.mono (by simp))
 clear Fm
 go_wp2
 go_loopw [5] (fun v wr => ∃ D R : Es, Hid ((D ++ R).Perm E) ∧ wr.ownsRow (w.heap.size + 1) 38 6 v (starE p D).length ((starE p D).flatMap cT) ∧ Ranging eW eT okW wr b (w.heap.size + 1) E R ∧ Box wr w.heap.size [.int .i64 p.x, .int .i64 p.y] 30 ∧ Below w.heap.size w wr) (fun _ wr => wr.rangeLeft b (w.heap.size + 1))
 case atStart => exact ⟨[], E, Lib.hid (by simp), World.ownsRow_nil _ _ _ _, by simpa using HR0, Bp0, hw0⟩
 case round =>
  clear HR0 hw0 Bp0
  obtain ⟨D, R, hD, hown, HR, Bp, hw⟩ := hrel
  go_wp2_with (at_next; refine zBh _ rfl _ rfl rfl HR ?_ ?_)
  ·intro hR
   subst hR
   have hp0 : (starE p D).Perm (starE p E) := zGo (by simpa using hD.out)
   have hle : (starE p D).length ≤ 1000000 := by have := hp0.length_eq; have := zHj p E; omega
   have HS := Lib.hid (wholeT.srt_of_perm hp0)
   obtain ⟨a1, c1, rfl, hc1, hr1⟩ := zAs zGk hown
   have hlen := Lib.hid (show (starE p D).length = (srt cmpT (starE p E)).length by rw [← HS.out]; exact (zAp _).length_eq.symm)
   go_wp2_with fail
   refine (zBs _ _ _ _ (Lib.hid rfl) hle hc1 _ hr1).mono ?_
   rintro e w2 ⟨a, cap, rfl, hr, hb⟩
   go_wp2
   go_ret
   rw [HS.out] at hr
   exact ⟨a, cap, by rw [hlen.out]; rfl, hr, (upB hw hb)⟩
  ·intro u x T R' w1 hperm HR1 hg1 hs1 hen
   have hD2 := Lib.hid (show ((D ++ [((u, x), T)]) ++ R').Perm E by have := (hperm.append_left D).symm.trans hD.out; simpa using this)
   have own1 := hown.kept hg1 (.inr (fun e => zAu hown HR e.symm))
   have Bp1 := Bp.grown1 hg1
   have hw1 := hw.grown hg1 hw.size (fun k hk => by cases hk; omega)
   have HL := Lib.hid (show w1.rangeLeft b (w.heap.size + 1) < wr.rangeLeft b (w.heap.size + 1) by rw [zAf HR1, zAf HR, hperm.length_eq]; simp)
   have hen2 : (Instr.entry (.pointer (some ⟨w.heap.size + 1, 0, none⟩))).run Tryz.prog w1 = .ok (.tuple #[.agg #[.int .i64 u.x, .int .i64 u.y, .int .i64 x.x, .int .i64 x.y], .agg #[.int .i64 T.A.x, .int .i64 T.A.y, .int .i64 T.B.x, .int .i64 T.B.y, .int .i64 T.C.x, .int .i64 T.C.y]]) w1 := hen
   have hle : (starE p D).length ≤ 1000000 := by have := hD2.out.length_eq; have := zHj p D; simp at *; omega
   have HB := Lib.hid hw1.size
   clear hown HR hg1 hs1 hen hperm hw Bp
   have e1 : (w.heap.size = w1.heap.size + 1) = False := by have := Bp1.lt; simp; omega
   by_cases hA : u = p
   ·have hd : peqI u.x u.y p.x p.y = true := zBf.2 hA
    have HH := Lib.hid (show starE p (D ++ [((u, x), T)]) = starE p D ++ [T] by rw [zD4, starE_yes hA])
    clear hA
    have Fp := Bp1.f
    have hb3 : Below w1.heap.size w1 ((w1.alloc (.cells #[.int .i64 u.x, .int .i64 u.y, .int .i64 x.x, .int .i64 x.y] 93)).alloc (.cells (cT T).toArray 38)) := by go_grown
    have own3 := (own1.alloc (.cells #[.int .i64 u.x, .int .i64 u.y, .int .i64 x.x, .int .i64 x.y] 93)).alloc (.cells (cT T).toArray 38)
    go_wp2_with (at_builtin; refine zAz rfl _ _ rfl (w.heap.size + 1) _ (starE p D) rfl (own3.alloc _) (w1.heap.size + 1 + 1) T rfl (Box.new (by simp)) hle (by have := HB.out; simp; omega) ?_; intro w4 v4 hown4 hg4)
    have hR3 := (HR1.ee hb3).kept (World.grownBy_alloc _ (.cells (cT T).toArray 38) none) (by simp) (by simp)
    have hR4 := hR3.kept hg4 (zC0 (own3.alloc _) hR3.holds) (zAu (own3.alloc _) hR3)
    have hw4 := ((((upB hw1 hb3)).alloc (by have := HB.out; simp; omega) (.cells (cT T).toArray 38))).grown hg4 (by have := HB.out; simp; omega) (fun k hk => by have := ((own3.alloc (.cells (cT T).toArray 38)).lt k hk).1; omega)
    have Bp4 := (((Bp1.old _).old _).old _).grown2 hg4 (fun k hk => by have := ((own3.alloc (.cells (cT T).toArray 38)).lt k hk).1; omega)
    go_roundw
    case rel => exact ⟨D ++ [((u, x), T)], R', hD2, by rw [HH.out]; exact hown4, hR4, Bp4, hw4⟩
    case measure => rw [zAf hR4, ← zAf HR1]; exact HL.out
   ·have hd : peqI u.x u.y p.x p.y = false := by rw [← Bool.not_eq_true, zBf]; exact hA
    have HH := Lib.hid (show starE p (D ++ [((u, x), T)]) = starE p D by rw [zD4, starE_no hA]; simp)
    clear hA
    have Fp := Bp1.f
    go_wp2
    go_roundw
    case rel => exact ⟨D ++ [((u, x), T)], R', hD2, by rw [HH.out]; exact (own1.alloc _).alloc _, HR1.ext (by go_grown) rfl, (Bp1.old _).old _, by have := hw1.size; go_grown⟩
    case measure => rw [zAf ((HR1.ext (w' := (w1.alloc _).alloc _) (by go_grown) rfl)), ← zAf HR1]; exact HL.out
end Go.Proofs.YtmobnmjjmafibaaGreat
namespace Go.Proofs.YtmobnmjjmafibaaGreat
open Go.RowKit Go.Sort
attribute [local go_sem] rOper rAt rUpon cell_set sg_i64 sg_u64 alloc_cell alloc_frozen
attribute [local go_sem 10000] pt_eql pt_neq wal_eql wal_neq
attribute [local irreducible] rWalk
def onD (p : Pt) (x : Wl) : Bool := !decide (p = x.A) && (!decide (p = x.B) && onR p x.A x.B)
theorem zJk (p : Pt) (x : Wl) : onD p x = (!peqI p.x p.y x.A.x x.A.y && (!peqI p.x p.y x.B.x x.B.y && onR p x.A x.B)) := by rw [zBv, zBv]; rfl
theorem ron_set_any (db : Nat) (a0 : Option Addr) (c n : Nat) (L : List Wl) (p : Pt) (w : World) (D : DocRd w db a0 c n L) :
    Calls Tryz.prog 113 #[.pointer (some ⟨db, 0, none⟩), .agg #[.int .i64 p.x, .int .i64 p.y]] w fun e w' => e = .returned (onV (L.find? (onD p))) ∧ Below w.heap.size w w' := by
 have hdb := D.box.lt
 have HM := Lib.hid D.len
 have hn : n ≤ 1000000 := D.len ▸ D.le
 have HD := Lib.hid D
 clear D
 go_enter Tryz.func113, Tryz.ntmps113
 go_wp2_with fail
 refine zA2 fun W1 hW => ?_
 have BP : Box W1 w.heap.size [.int .i64 p.x, .int .i64 p.y] 30 := by rw [hW]; exact (Box.new rfl).old _
 have BR : Box W1 (w.heap.size + 1) [.int .i64 0, .int .i64 0, .int .i64 0, .int .i64 0, .int .i64 0] 105 := by rw [hW]; exact Box.new (by simp)
 have hw : Below w.heap.size w W1 := by rw [hW]; go_grown
 clear hW
 go_loopw [6] (fun vi wr => ∃ k : Nat, k ≤ n ∧ vi = .int .i64 k ∧ Hid ((L.take k).find? (onD p) = none) ∧ Below w.heap.size w wr ∧ Box wr w.heap.size [.int .i64 p.x, .int .i64 p.y] 30 ∧ Box wr (w.heap.size + 1) [.int .i64 0, .int .i64 0, .int .i64 0, .int .i64 0, .int .i64 0] 105) (fun vi _ => n - (intOf vi).toNat)
 case atStart => exact ⟨0, Nat.zero_le _, rfl, Lib.hid rfl, hw, BP, BR⟩
 case round =>
  clear BP BR hw
  obtain ⟨k, hk, rfl, HI, hwr, BP, BR⟩ := hrel
  have BD := (HD.out.ee hwr).box
  by_cases hlt : k < n
  ·have hkL : k < L.length := by rw [HM.out]; exact hlt
   obtain ⟨ad, A, ea, eA, hA⟩ := (HD.out.ee hwr).row.five (j := k) hkL
   have HX : Hid (L[k] = L[k]) := Lib.hid rfl
   generalize hX : L[k] = X at hA HX
   clear HX
   have HX := Lib.hid hX
   clear hX
   obtain ⟨u0, u1, u2, u3, u4, u5⟩ := hA.f
   obtain ⟨y0, y1, y2, y3⟩ := BP.f
   obtain ⟨d0, d1, d2, d3⟩ := BD.f
   obtain ⟨z0, z1, z2, z3⟩ := BR.f
   subst ea
   have c1 := ron_any p X.A X.B
   cases e1 : peqI p.x p.y X.A.x X.A.y with
   | true =>
    have HE : Hid (onD p X = false) := Lib.hid (by rw [zJk, e1]; rfl)
    have HF : Hid ((L.take (k + 1)).find? (onD p) = none) := Lib.hid (zCa hkL HI.out (by rw [HX.out]; exact HE.out))
    clear HE HX HI
    have HP := Lib.hid BP
    have HR := Lib.hid BR
    clear BP BR BD
    go_wp2
    go_roundw
    case rel => exact ⟨k + 1, hlt, by go_num, HF, by have hl := hwr.size; go_grown, HP.out.old _, HR.out.old _⟩
    case measure => simp [intOf]; omega
   | false =>
    cases e2 : peqI p.x p.y X.B.x X.B.y with
    | true =>
     have HE : Hid (onD p X = false) := Lib.hid (by rw [zJk, e1, e2]; rfl)
     have HF : Hid ((L.take (k + 1)).find? (onD p) = none) := Lib.hid (zCa hkL HI.out (by rw [HX.out]; exact HE.out))
     clear HE HX HI
     have HP := Lib.hid BP
     have HR := Lib.hid BR
     clear BP BR BD
     go_wp2
     go_roundw
     case rel => exact ⟨k + 1, hlt, by go_num, HF, by have hl := hwr.size; go_grown, HP.out.old _, HR.out.old _⟩
     case measure => simp [intOf]; omega
    | false =>
     cases e4 : onR p X.A X.B with
     | false =>
      have HE : Hid (onD p X = false) := Lib.hid (by rw [zJk, e1, e2, e4]; rfl)
      rw [e4] at c1
      clear e4
      have HF : Hid ((L.take (k + 1)).find? (onD p) = none) := Lib.hid (zCa hkL HI.out (by rw [HX.out]; exact HE.out))
      clear HE HX HI
      have HP := Lib.hid BP
      have HR := Lib.hid BR
      have HW := Lib.hid hwr
      go_wp2_with fail
      refine zA1 fun W2 hW => ?_
      have BP2 : Box W2 w.heap.size [.int .i64 p.x, .int .i64 p.y] 30 := by rw [hW]; exact HP.out.old _
      have BR2 : Box W2 (w.heap.size + 1) [.int .i64 0, .int .i64 0, .int .i64 0, .int .i64 0, .int .i64 0] 105 := by rw [hW]; exact HR.out.old _
      have BX2 : Box W2 wr.heap.size [.int .i64 X.A.x, .int .i64 X.A.y, .int .i64 X.B.x, .int .i64 X.B.y, .int .i64 X.K] 105 := by rw [hW]; exact Box.new rfl
      have hw2 : Below w.heap.size w W2 := by have hl := hwr.size; rw [hW]; go_grown
      clear hW BP BR hwr y0 y1 y2 y3 z0 z1 z2 z3 u0 u1 u2 u3 u4 u5 hA d0 d1 d2 d3 BD
      refine (c1 W2).mono ?_
      rintro e w3 ⟨rfl, hb⟩
      have l1 : w.heap.size + 1 < wr.heap.size := HR.out.lt
      replace BP2 := BP2.ee hb
      replace BR2 := BR2.ee hb
      replace BX2 := BX2.ee hb
      replace hw2 := upB hw2 hb
      clear hb
      obtain ⟨y0, y1, y2, y3⟩ := BP2.f
      obtain ⟨z0, z1, z2, z3⟩ := BR2.f
      obtain ⟨u0, u1, u2, u3⟩ := BX2.f
      go_wp2
      go_roundw
      case rel => exact ⟨k + 1, hlt, by go_num, HF, hw2, BP2, BR2⟩
      case measure => simp [intOf]; omega
     | true =>
      have HE : Hid (onD p X = true) := Lib.hid (by rw [zJk, e1, e2, e4]; rfl)
      rw [e4] at c1
      clear e4
      have HP := Lib.hid BP
      have HR := Lib.hid BR
      have HW := Lib.hid hwr
      go_wp2_with fail
      refine zA1 fun W2 hW => ?_
      have BP2 : Box W2 w.heap.size [.int .i64 p.x, .int .i64 p.y] 30 := by rw [hW]; exact HP.out.old _
      have BR2 : Box W2 (w.heap.size + 1) [.int .i64 0, .int .i64 0, .int .i64 0, .int .i64 0, .int .i64 0] 105 := by rw [hW]; exact HR.out.old _
      have BX2 : Box W2 wr.heap.size [.int .i64 X.A.x, .int .i64 X.A.y, .int .i64 X.B.x, .int .i64 X.B.y, .int .i64 X.K] 105 := by rw [hW]; exact Box.new rfl
      have hw2 : Below w.heap.size w W2 := by have hl := hwr.size; rw [hW]; go_grown
      clear hW BP BR hwr y0 y1 y2 y3 z0 z1 z2 z3 u0 u1 u2 u3 u4 u5 hA d0 d1 d2 d3 BD
      refine (c1 W2).mono ?_
      rintro e w3 ⟨rfl, hb⟩
      have l1 : w.heap.size + 1 < wr.heap.size := HR.out.lt
      replace BP2 := BP2.ee hb
      replace BR2 := BR2.ee hb
      replace BX2 := BX2.ee hb
      replace hw2 := upB hw2 hb
      clear hb
      obtain ⟨y0, y1, y2, y3⟩ := BP2.f
      obtain ⟨z0, z1, z2, z3⟩ := BR2.f
      obtain ⟨u0, u1, u2, u3⟩ := BX2.f
      have HF : Hid (L.find? (onD p) = some X) := Lib.hid (by rw [← HX.out]; exact zI7 hkL HI.out (by rw [HX.out]; exact HE.out))
      clear HE HX HI
      go_wp2_with fail
      refine bodyPost_ret (v := .tuple #[.agg #[.int .i64 X.A.x, .int .i64 X.A.y, .int .i64 X.B.x, .int .i64 X.B.y, .int .i64 X.K], .bool true]) (by simp [results, Tryz.results113, go_sem, z0]) rfl ⟨?_, by have hl := hw2.size; go_grown⟩
      rw [HF.out]
      rfl
  ·obtain rfl : k = n := by omega
   have HF : Hid (L.find? (onD p) = none) := Lib.hid (zJ8 (by rw [HM.out]; exact HI.out))
   clear HI
   obtain ⟨z0, z1, z2, z3⟩ := BR.f
   obtain ⟨d0, d1, d2, d3⟩ := BD.f
   go_wp2_with fail
   refine bodyPost_ret (v := .tuple #[.agg #[.int .i64 0, .int .i64 0, .int .i64 0, .int .i64 0, .int .i64 0], .bool false]) (by simp [results, Tryz.results113, go_sem, z0]) rfl ⟨?_, by have hl := hwr.size; go_grown⟩
   rw [HF.out]; rfl
attribute [local go_sem ↓ 10000] run_from_wal run_upto_wal
def RemAt (L : List Wl) (p q : Pt) (r : Int) (L' : List Wl) : Prop :=
 (r = 16 ∧ L' = L ∧ ∀ x ∈ L, isW p q x = false) ∨ (r = 0 ∧ ∃ (k : Nat) (h : k < L.length), isW p q L[k] = true ∧ L' = L.take k ++ L.drop (k + 1))
theorem zKf (p q : Pt) (x : Wl) : isW p q x = (peqI x.A.x x.A.y p.x p.y && peqI x.B.x x.B.y q.x q.y) := by rw [zBv, zBv]; rfl
theorem rrem_any (db : Nat) (v : Value) (L : List Wl) (a b : Pt) (w : World) (S : DocAt w db v L) :
    Calls Tryz.prog 114 #[.pointer (some ⟨db, 0, none⟩), .agg #[.int .i64 a.x, .int .i64 a.y], .agg #[.int .i64 b.x, .int .i64 b.y]] w fun e w' => ∃ r v' L', e = .returned (.int .i64 r) ∧ RemAt L (rl a b) (rg a b) r L' ∧ DocAt w' db v' L' ∧ Frm w w' (· = db) ∧ (∀ g, v'.ownBlock = some g → v.ownBlock = some g ∨ w.heap.size ≤ g) := by
 obtain ⟨a0, c, rfl, D, hz⟩ := S.rd
 have HS := Lib.hid S
 clear S
 have hdb := D.box.lt
 have hle := D.le
 obtain ⟨n, hn⟩ : ∃ n, L.length = n := ⟨_, rfl⟩
 rw [hn] at D HS hle
 have HM := Lib.hid hn
 have hnc := D.nc
 have hfl := D.flat
 have HD := Lib.hid D
 clear D hn
 have c1 := zKa a b
 have c2 := zKb a b
 generalize rl a b = p at *
 generalize rg a b = q at *
 go_enter Tryz.func114, Tryz.ntmps114
 go_wp2_with fail
 refine zA2 fun W1 hW => ?_
 have BA : Box W1 w.heap.size [.int .i64 a.x, .int .i64 a.y] 30 := by rw [hW]; exact (Box.new rfl).old _
 have BB : Box W1 (w.heap.size + 1) [.int .i64 b.x, .int .i64 b.y] 30 := by rw [hW]; exact Box.new (by simp)
 have hw : Below w.heap.size w W1 := by rw [hW]; go_grown
 clear hW
 go_loopw [7] (fun vi wr => ∃ k : Nat, k ≤ n ∧ vi = .int .i64 k ∧ Hid (∀ (j : Nat) (h : j < L.length), j < k → isW p q L[j] = false) ∧ Below w.heap.size w wr ∧ Box wr w.heap.size [.int .i64 a.x, .int .i64 a.y] 30 ∧ Box wr (w.heap.size + 1) [.int .i64 b.x, .int .i64 b.y] 30) (fun vi _ => n - (intOf vi).toNat)
 case atStart => exact ⟨0, Nat.zero_le _, rfl, Lib.hid (fun j h hj => by omega), hw, BA, BB⟩
 case round =>
  clear BA BB hw
  obtain ⟨k, hk, rfl, HA, hwr, BA, BB⟩ := hrel
  have BD := (HD.out.ee hwr).box
  have hrow := (HD.out.ee hwr).row
  by_cases hkn : k < n
  ·have hkL : k < L.length := by rw [HM.out]; exact hkn
   obtain ⟨aj, A, ea, eA, hA5⟩ := hrow.five (j := k) hkL
   have HY : Hid (L[k] = L[k]) := Lib.hid rfl
   generalize hY : L[k] = Y at hA5 HY
   clear HY
   have HY := Lib.hid hY
   clear hY
   obtain ⟨s0, s1, s2, s3, s4⟩ := hA5.cells
   have gA := BA.cells
   have gB := BB.cells
   have gD := BD.cells
   obtain ⟨d0, d1, d2, d3⟩ := BD.f
   have q3 : (k : Int) < (n : Int) := by omega
   have q4 : (0 : Int) ≤ (k : Int) := by omega
   subst ea
   clear hA5
   cases e1 : peqI Y.A.x Y.A.y p.x p.y with
   | false =>
    have HE : Hid (isW p q Y = false) := Lib.hid (by rw [zKf, e1]; rfl)
    have HA2 : Hid (∀ (j : Nat) (h : j < L.length), j < k + 1 → isW p q L[j] = false) := Lib.hid (fun j h hj => by
     by_cases e : j = k
     ·subst e; rw [HY.out]; exact HE.out
     ·exact HA.out j h (by omega))
    clear HA HY HE
    go_wp2_with fail
    refine (wp_region_tail 25 (by kernel_rfl) (by kernel_rfl) (C := fun w' => ∃ p : Regrown, w' = grow (redrawn wr p.d) p.os) rgB ?_)
    simp only [tK1, tK0, dP1, dP0]
    repeat (first | (refine zA0 (Eq.refl false) ?_; simp only [Act.put, sT2, sT1, sT0]) | (refine rWalk_step (fun K hK => ?_); go_simp; first | (refine hK _ ?_; clear hK K) | (apply Exists.intro; refine ⟨fun _ => ?_, hK _ ?_⟩; (first | with_reducible exact toExt c1 _ | with_reducible exact toExt c2 _); clear hK K)))
    refine rWalk_nil ?_
    intro wx hb
    replace BA := BA.ee hb
    replace BB := BB.ee hb
    replace BD := BD.ee hb
    replace hrow := hrow.ee hb
    replace hwr := upB hwr hb
    clear hb gA gB gD d0 d1 d2 d3 s0 s1 s2 s3 s4 c1 c2 q3 q4
    have HQ := Lib.hid hwr
    have HBA := Lib.hid BA
    have HBB := Lib.hid BB
    clear BA BB BD hrow hwr
    go_wp2
    go_roundw
    case rel => exact ⟨k + 1, hkn, by go_num, HA2, HQ.out, HBA.out, HBB.out⟩
    case measure => simp [intOf]; omega
   | true =>
    cases e2 : peqI Y.B.x Y.B.y q.x q.y with
    | false =>
     have HE : Hid (isW p q Y = false) := Lib.hid (by rw [zKf, e1, e2]; rfl)
     have HA2 : Hid (∀ (j : Nat) (h : j < L.length), j < k + 1 → isW p q L[j] = false) := Lib.hid (fun j h hj => by
      by_cases e : j = k
      ·subst e; rw [HY.out]; exact HE.out
      ·exact HA.out j h (by omega))
     clear HA HY HE
     go_wp2_with fail
     refine (wp_region_tail 25 (by kernel_rfl) (by kernel_rfl) (C := fun w' => ∃ p : Regrown, w' = grow (redrawn wr p.d) p.os) rgB ?_)
     simp only [tK1, tK0, dP1, dP0]
     repeat (first | (refine zA0 (Eq.refl false) ?_; simp only [Act.put, sT2, sT1, sT0]) | (refine rWalk_step (fun K hK => ?_); go_simp; first | (refine hK _ ?_; clear hK K) | (apply Exists.intro; refine ⟨fun _ => ?_, hK _ ?_⟩; (first | with_reducible exact toExt c1 _ | with_reducible exact toExt c2 _); clear hK K)))
     refine rWalk_nil ?_
     intro wx hb
     replace BA := BA.ee hb
     replace BB := BB.ee hb
     replace BD := BD.ee hb
     replace hrow := hrow.ee hb
     replace hwr := upB hwr hb
     clear hb gA gB gD d0 d1 d2 d3 s0 s1 s2 s3 s4 c1 c2 q3 q4
     have HQ := Lib.hid hwr
     have HBA := Lib.hid BA
     have HBB := Lib.hid BB
     clear BA BB BD hrow hwr
     go_wp2
     go_roundw
     case rel => exact ⟨k + 1, hkn, by go_num, HA2, HQ.out, HBA.out, HBB.out⟩
     case measure => simp [intOf]; omega
    | true =>
     have HE : Hid (isW p q Y = true) := Lib.hid (by rw [zKf, e1, e2]; rfl)
     obtain ⟨k1, hk1⟩ : ∃ k1, k + 1 = k1 := ⟨_, rfl⟩
     have HREM : Hid (RemAt L p q 0 (L.take k ++ L.drop k1)) := Lib.hid (.inr ⟨rfl, k, hkL, by rw [HY.out]; exact HE.out, by rw [hk1]⟩)
     clear HA HY HE
     go_wp2_with fail
     refine (wp_region_tail 25 (by kernel_rfl) (by kernel_rfl) (C := fun w' => ∃ p : Regrown, w' = grow (redrawn wr p.d) p.os) rgB ?_)
     simp only [tK1, tK0, dP1, dP0]
     repeat (first | (refine zA0 (Eq.refl false) ?_; simp only [Act.put, sT2, sT1, sT0]) | (refine rWalk_step (fun K hK => ?_); go_simp; first | (refine hK _ ?_; clear hK K) | (apply Exists.intro; refine ⟨fun _ => ?_, hK _ ?_⟩; (first | with_reducible exact toExt c1 _ | with_reducible exact toExt c2 _); clear hK K)))
     refine rWalk_nil ?_
     intro wx hb
     replace BA := BA.ee hb
     replace BB := BB.ee hb
     replace BD := BD.ee hb
     replace hrow := hrow.ee hb
     replace hwr := upB hwr hb
     clear hb gA gB gD d0 d1 d2 d3 s0 s1 s2 s3 s4 c1 c2 q3 q4
     obtain ⟨ad, had, hdr, hfl2, hnil⟩ := zGe hrow HM.out hnc hfl (show k1 ≤ n by omega) hz
     have HAD := Lib.hid had
     have HT1 := Lib.hid (show (L.take k).length = k by rw [List.length_take, HM.out]; omega)
     have HT2 := Lib.hid (show (L.drop k1).length = n - k1 by rw [List.length_drop, HM.out])
     have hk6 : k ≤ 1000000 := by omega
     have hk7 : k + (n - k1) ≤ 1000000 := by omega
     have q5 : IntKind.i64.wrap ((k : Int) + 1) = (k1 : Int) := by rw [IntKind.wrap_i64]; omega
     have gD := BD.cells
     have z2 : k ≤ c := by omega
     have z3 : k1 ≤ n := by omega
     clear had hk1 e1 e2
     go_wp2_with fail
     have hcB : ∀ w', (∃ p : Regrown, w' = grow (redrawn wx p.d) p.os) → Below wx.heap.size wx w' := fun w' h => by obtain ⟨p, rfl⟩ := h; exact below_regrown _ _ _
     refine FT.wp_region_flow 17 (.run 0 (.run 2 (.run 3 (.run 4 (.run 5 (.run 6 (.run 7 (.run 9 (.run 10 (.run 11 (.run 12 (.run 13 (.run 14 (.run 15 (.alt 1 (.alt 8 (.alt 16 (.tail) .stop) .stop) .stop))))))))))))))) rfl (by kernel_rfl) (fun _ x _ _ _ h => by cases x <;> exact h) (C := fun w' => ∃ p : Regrown, w' = grow (redrawn wx p.d) p.os) rgB hcB ?_
     have hC : ∀ x y, Ext x y → (∃ p : Regrown, x = grow (redrawn wx p.d) p.os) → (∃ p : Regrown, y = grow (redrawn wx p.d) p.os) := fun x y h1 h2 => regrown_of_below ((hcB x h2).trans (h1.mono (hcB x h2).size))
     iterate 14 (refine FT.flow_run rfl (fun K hK => ?_); go_simp; first | (refine hK _ ?_; clear hK K) | (apply Exists.intro; refine ⟨fun _ => ?_, hK _ ?_⟩; rotate_left; clear hK K))
     first | rw [HAD.out] | (have hq := HAD.out; simp only [Option.map_some] at hq; rw [hq]; clear hq)
     refine FT.flow_at hC rfl trivial (fun w1 hw1 K hK => ?_)
     go_simp
     have hbM : Below wx.heap.size wx (w1.alloc (.cells #[] 105)) := Below.alloc hw1 (Below.size hw1) _
     have hrM := zEy w1 wx.heap.size (Below.size hw1)
     refine hK _ _ (regrown_of_below hbM) ?_
     clear hK K
     refine FT.flow_at hC rfl trivial (fun w2 hw2 K hK => ?_)
     have hb2 := hbM.trans (Below.mono hw2 hbM.size)
     refine zAd (by rfl) _ _ (by rfl) wx.heap.size _ [] (by rfl) (hrM.ee hw2) _ k c (L.take k) (by rfl) HT1.out ((hrow.ee hb2).take k) hfl (fun e => by cases e) (by simpa using hk6) (Below.size hb2) (some 51) (by rfl) ?_
     intro w3 v12 hr12 hf12 hs12
     rw [List.nil_append] at hr12
     have hb3 := hb2.trans (hf12.below (fun k e => ((hrM.ee hw2).lt k e).1) hb2.size)
     refine hK _ _ (regrown_of_below hb3) ?_
     clear hK K
     simp only [Act.put, sT2, sT1, sT0]
     refine FT.flow_at hC rfl trivial (fun w6 hw6 K hK => ?_)
     have hb6 := (upB hb3 hw6)
     refine zAd (by rfl) _ _ (by rfl) wx.heap.size v12 (L.take k) (by rfl) (hr12.ee hw6) ad (n - k1) (c - k1) (L.drop k1) (by rfl) HT2.out (hdr.ee hb6) hfl2 hnil (by rw [HT1.out]; exact hk7) hb6.size (some 59) (by rfl) ?_
     intro w7 v18 hr18 hf18 hs18
     have hb7 := hb6.trans (hf18.below (fun k e => ((hr12.ee hw6).lt k e).1) hb6.size)
     refine hK _ _ (regrown_of_below hb7) ?_
     clear hK K
     simp only [Act.put, sT2, sT1, sT0]
     intro w8 hw8
     have hb8 := (upB hb7 hw8)
     have BD8 := BD.ee hb8
     have hw8' := (upB hwr hb8)
     obtain ⟨hS8, hF8, hG8⟩ := zF4 HS.out hw8' ((hr18.ee hw8).base hwr.size) (by rw [List.length_append, HT1.out, HT2.out]; exact hk7)
     obtain ⟨a18, n18, c18, rfl⟩ := hr18.form
     obtain ⟨d0, d1, d2, d3⟩ := BD8.f
     clear hr12 hr18 hf12 hs12 hf18 hs18 gD
     simp only [dP1, dP0]
     go_wp2
     go_ret
     exact ⟨0, _, _, rfl, HREM.out, hS8, hF8, fun g e => .inr (hG8 g e)⟩
  ·obtain rfl : k = n := by omega
   have HREM : Hid (RemAt L p q 16 L) := Lib.hid (.inl ⟨rfl, rfl, fun x hx => by
    obtain ⟨j, hj, rfl⟩ := List.mem_iff_getElem.1 hx
    exact HA.out j hj (by have := HM.out; omega)⟩)
   have hF : Frm w wr (· = db) := Frm.of_below hwr
   have hS := HS.out.ee hwr
   have HF := Lib.hid hF
   have HS2 := Lib.hid hS
   obtain ⟨d0, d1, d2, d3⟩ := BD.f
   clear hS hF HA
   go_wp2
   go_ret
   exact ⟨16, _, L, rfl, HREM.out, HS2.out, HF.out, fun g e => .inl (by rw [HM.out]; exact e)⟩
end Go.Proofs.YtmobnmjjmafibaaGreat
namespace Go.Proofs.YtmobnmjjmafibaaGreat
open Go.RowKit Go.Sort
attribute [local go_sem] rOper rAt rUpon cell_set sg_i64 sg_u64 alloc_cell alloc_frozen
attribute [local go_sem 10000] pt_eql pt_neq tri_eql
attribute [local irreducible] rWalk
def putF (E : Es) (T : Tri3) : Es := if freeE E T = true then putT E T else E
theorem rputF_any (mb b : Nat) (E : Es) (T : Tri3) (hk : okT T) (w : World) (Bm : Box w mb [.map (some b)] 41) (Hm : HoldsMap eW eT okW w b E) :
    Calls Tryz.prog 86 #[.pointer (some ⟨mb, 0, none⟩), .agg #[.int .i64 T.A.x, .int .i64 T.A.y, .int .i64 T.B.x, .int .i64 T.B.y, .int .i64 T.C.x, .int .i64 T.C.y]] w fun e w' => ∃ r, e = .returned (.bool r) ∧ w.grownBy w' (some b) ∧ HoldsMap eW eT okW w' b (putF E T) := by
 unfold putF
 cases hf : freeE E T with
 | true => exact (zFy mb b E T hf hk w Bm Hm).mono fun e w' ⟨h1, h2, h3⟩ => ⟨true, h1, h2, by rw [if_pos rfl]; exact h3⟩
 | false => exact (zJq mb b E T hf hk w Bm Hm).mono fun e w' ⟨h1, h2⟩ => ⟨false, h1, zA6 h2 _, by rw [if_neg (by decide)]; exact Hm.ee h2⟩
def atE (E : Es) (p : Pt) : List Tri3 := srt cmpT (heads (fun T => hasP T p) E)
def cutS (p : Pt) (T : Tri3) : List Tri3 := srt cmpT (cutR T p)
def addPE (E : Es) (p : Pt) : Es := (atE E p).foldl (fun E T => (cutS p T).foldl putF E) ((atE E p).foldl takeT E)
section
variable (mb b db : Nat) (E : Es) (p : Pt) (hE : E.length ≤ 1000000) (w : World) (Bm : Box w mb [.map (some b)] 41) (Hm : HoldsMap eW eT okW w b E)
include hE Bm Hm
theorem raddP_none (hat : atE E p = []) :
    Calls Tryz.prog 72 #[.pointer (some ⟨mb, 0, none⟩), .pointer (some ⟨db, 0, none⟩), .agg #[.int .i64 p.x, .int .i64 p.y]] w fun e w' => e = .returned (.int .i64 1) ∧ Below w.heap.size w w' := by
 have cA := fun w0 B1 H1 => zIr mb b E p hE w0 B1 H1
 change ∀ (w0 : World) B1 H1, Calls _ _ _ _ fun e w' => ∃ a cap, e = .returned (.slice a (atE E p).length cap) ∧ RowAt cT 6 w' a (atE E p) ∧ Below w0.heap.size w0 w' at cA
 rw [hat] at cA
 clear hat
 go_enter Tryz.func72, Tryz.ntmps72
 go_wp2_with fail
 refine zA1 fun W1 hW => ?_
 have hw : Below w.heap.size w W1 := by rw [hW]; go_grown
 clear hW
 refine (cA _ (Bm.ee hw) (Hm.ee hw)).mono ?_
 rintro e w2 ⟨a, cap, rfl, hr, hb⟩
 have hw2 := (upB hw hb)
 clear hb cA
 go_wp2
 go_ret
 exact ⟨rfl, hw2⟩
theorem raddP_have (hat : atE E p ≠ []) (hst : starE p E ≠ []) :
    Calls Tryz.prog 72 #[.pointer (some ⟨mb, 0, none⟩), .pointer (some ⟨db, 0, none⟩), .agg #[.int .i64 p.x, .int .i64 p.y]] w fun e w' => e = .returned (.int .i64 5) ∧ Below w.heap.size w w' := by
 have cA := fun w0 B1 H1 => zIr mb b E p hE w0 B1 H1
 change ∀ (w0 : World) B1 H1, Calls _ _ _ _ fun e w' => ∃ a cap, e = .returned (.slice a (atE E p).length cap) ∧ RowAt cT 6 w' a (atE E p) ∧ Below w0.heap.size w0 w' at cA
 have cS := fun w0 B1 H1 => zHk mb b E p hE w0 B1 H1
 obtain ⟨n, hn⟩ : ∃ n, (atE E p).length = n := ⟨_, rfl⟩
 obtain ⟨m, hm⟩ : ∃ m, (srt cmpT (starE p E)).length = m := ⟨_, rfl⟩
 have hn0 : ((n : Int) == 0) = false := by
  have : n ≠ 0 := fun e => hat (List.length_eq_zero_iff.1 (hn.trans e))
  simp; omega
 have hm1 : 0 < m := by
  have : m ≠ 0 := fun e => hst (List.length_eq_zero_iff.1 (by rw [← (zAp (c := cmpT) (starE p E)).length_eq, hm, e]))
  omega
 have hm0 : decide (0 < (m : Int)) = true := by simp; omega
 have hm2 : (0 < (m : Int)) = True := by simp; omega
 rw [hn] at cA
 rw [hm] at cS
 clear hat hst hn hm
 go_enter Tryz.func72, Tryz.ntmps72
 go_wp2_with fail
 refine zA1 fun W1 hW => ?_
 have hw : Below w.heap.size w W1 := by rw [hW]; go_grown
 have Bp : Box W1 w.heap.size [.int .i64 p.x, .int .i64 p.y] 30 := by rw [hW]; exact Box.new rfl
 clear hW
 refine (cA _ (Bm.ee hw) (Hm.ee hw)).mono ?_
 rintro e w2 ⟨a, cap, rfl, hr, hb⟩
 have hw2 := (upB hw hb)
 have Bp2 := Bp.ee hb
 clear hb cA hr
 have Fp := Bp2.f
 go_wp2_with fail
 refine (cS _ (Bm.ee hw2) (Hm.ee hw2)).mono ?_
 rintro e w3 ⟨a3, cap3, rfl, hr3, hb3⟩
 have hw3 := (upB hw2 hb3)
 clear hb3 cS hr3 Fp
 go_wp2
 go_ret
 exact ⟨rfl, hw3⟩
end
theorem DocAt.turn {w w' : World} {db b : Nat} {v : Value} {L : List Wl} {E : Es} (S : DocAt w db v L) (H : HoldsMap eW eT okW w b E) (hg : w.grownBy w' (some b)) : DocAt w' db v L :=
 ⟨S.box.turn H hg, S.row.kept hg (.inr (fun e => zC0 S.row H e.symm)), S.ne, S.le⟩
theorem zFv {α β : Type} (f : β → α → β) (L : List α) (e : β) {i : Nat} (hi : i < L.length) : (L.take (i + 1)).foldl f e = f ((L.take i).foldl f e) L[i] := by
 rw [List.take_succ_eq_append_getElem hi, List.foldl_append]; rfl
def insW (L : List Wl) (X : Wl) (k : Nat) : List Wl := L.take k ++ X :: L.drop k
def AddD (D : List Wl) (p : Pt) (D' : List Wl) : Prop :=
 (D.find? (onD p) = none ∧ D' = D) ∨ ∃ X r D1 k1 k2, D.find? (onD p) = some X ∧ RemAt D (rl X.A X.B) (rg X.A X.B) r D1 ∧ PutAt D1 ⟨X.A, p, X.K⟩ k1 ∧ PutAt (insW D1 ⟨X.A, p, X.K⟩ k1) ⟨p, X.B, X.K⟩ k2 ∧ D' = insW (insW D1 ⟨X.A, p, X.K⟩ k1) ⟨p, X.B, X.K⟩ k2
def AddPost (b db : Nat) (E : Es) (p : Pt) (v : Value) (D : List Wl) (w : World) (e : Ending) (w' : World) : Prop :=
 ∃ v' D', e = .returned (.int .i64 0) ∧ HoldsMap eW eT okW w' b (addPE E p) ∧ DocAt w' db v' D' ∧ AddD D p D' ∧ Frm w w' (fun k => k = b ∨ k = db) ∧ (∀ g, v'.ownBlock = some g → v.ownBlock = some g ∨ w.heap.size ≤ g)
theorem raddP_ok (mb b db : Nat) (E : Es) (p : Pt) (v : Value) (D : List Wl) (hE : E.length ≤ 1000000) (hn1 : (atE E p).length ≤ 1000) (hok : ∀ T ∈ atE E p, okT T) (hok2 : ∀ T ∈ atE E p, ∀ U ∈ cutS p T, okT U) (hat : atE E p ≠ []) (hst : starE p E = []) (w : World) (Bm : Box w mb [.map (some b)] 41) (Hm : HoldsMap eW eT okW w b E) (Dw : DocAt w db v D) (hD : D.length + 2 < 1000000) (hgk : ∀ x ∈ D, 0 ≤ x.K ∧ x.K ≤ 2) :
    Calls Tryz.prog 72 #[.pointer (some ⟨mb, 0, none⟩), .pointer (some ⟨db, 0, none⟩), .agg #[.int .i64 p.x, .int .i64 p.y]] w (AddPost b db E p v D w) := by
 have cA := fun w0 B1 H1 => zIr mb b E p hE w0 B1 H1
 change ∀ (w0 : World) B1 H1, Calls _ _ _ _ fun e w' => ∃ a cap, e = .returned (.slice a (atE E p).length cap) ∧ RowAt cT 6 w' a (atE E p) ∧ Below w0.heap.size w0 w' at cA
 have cS := fun w0 B1 H1 => zHk mb b E p hE w0 B1 H1
 have z : srt cmpT ([] : List Tri3) = [] := List.length_eq_zero_iff.1 (by rw [(zAp _).length_eq]; rfl)
 rw [hst, z] at cS
 have HA := Lib.hid (show addPE E p = (atE E p).foldl (fun E T => (cutS p T).foldl putF E) ((atE E p).foldl takeT E) from rfl)
 obtain ⟨EE, hEE⟩ : ∃ EE, addPE E p = EE := ⟨_, rfl⟩
 rw [hEE] at HA
 have HEE := Lib.hid hEE
 clear hEE
 generalize atE E p = F at *
 obtain ⟨n, hn⟩ : ∃ n, F.length = n := ⟨_, rfl⟩
 have hn0 : ((n : Int) == 0) = false := by
  have : n ≠ 0 := fun e => hat (List.length_eq_zero_iff.1 (hn.trans e))
  simp; omega
 rw [hn] at cA hn1
 have HN := Lib.hid hn
 have HG := Lib.hid hgk
 clear hat hst hn z hgk
 go_enter Tryz.func72, Tryz.ntmps72
 go_wp2_with fail
 refine zA1 fun W1 hW => ?_
 have hw : Below w.heap.size w W1 := by rw [hW]; go_grown
 have Bp : Box W1 w.heap.size [.int .i64 p.x, .int .i64 p.y] 30 := by rw [hW]; exact Box.new rfl
 clear hW
 refine (cA _ (Bm.ee hw) (Hm.ee hw)).mono ?_
 rintro e w2 ⟨a, cap, rfl, hr, hb⟩
 have hw2 := (upB hw hb)
 have Bp2 := Bp.ee hb
 clear hb cA Bp hw
 have Fp := Bp2.f
 go_wp2_with fail
 refine (cS _ (Bm.ee hw2) (Hm.ee hw2)).mono ?_
 rintro e w3 ⟨a3, cap3, rfl, hr3, hb3⟩
 have hw3 := (upB hw2 hb3)
 have Bp3 := Bp2.ee hb3
 have r3 := hr.ee hb3
 have H3 := Hm.ee hw3
 have g3 : w.grownBy w3 (some b) := zA6 hw3 _
 clear hb3 cS hr3 Fp hr Bp2 hw2 hw3
 go_wp2
 go_loopw [8] (fun v8 wr => ∃ i : Nat, v8 = .int .i64 i ∧ i ≤ n ∧ HoldsMap eW eT okW wr b ((F.take i).foldl takeT E) ∧ w.grownBy wr (some b) ∧ Box wr w.heap.size [.int .i64 p.x, .int .i64 p.y] 30 ∧ RowAt cT 6 wr a F) (fun v8 _ => n - (intOf v8).toNat)
 case atStart => exact ⟨0, rfl, Nat.zero_le _, H3, g3, Bp3, r3⟩
 case round =>
  clear H3 g3 Bp3 r3
  obtain ⟨i, rfl, hi, H3, g3, Bp3, r3⟩ := hrel
  by_cases hlt : i < n
  ·have hil : i < F.length := by rw [HN.out]; exact hlt
   have q0 : (i : Int) < (n : Int) := by omega
   obtain ⟨ad, A, ea, eA, hA⟩ := r3.six (j := i) hil
   have hkT := hok F[i] (List.getElem_mem hil)
   have HT := Lib.hid (zFv takeT F E hil)
   generalize F[i] = T at *
   generalize hE1 : (F.take i).foldl takeT E = E1 at *
   have ct := zFx mb b E1 T hkT wr (Bm.turn Hm g3) H3
   obtain ⟨zA, q1, q2, q3, q4, q5, q6⟩ := hA.f
   have hlA := hA.1
   subst ea
   clear hE1 hkT
   go_wp2_with fail
   refine ct.mono ?_
   rintro e w5 ⟨rfl, h5, H5⟩
   have Bp5 := Bp3.turn H3 h5
   have r5 := r3.turn cT_ne H3 h5
   have g5 := zA9 g3 h5
   clear ct zA q1 q2 q3 q4 q5 q6 hA H3 Bp3 r3 g3 h5
   go_wp2
   go_roundw
   case rel => exact ⟨i + 1, by go_num, by omega, by rw [HT.out]; exact H5, g5, Bp5, r5⟩
   case measure => simp [intOf]; omega
  ·have q0 : decide ((i : Int) < (n : Int)) = false := by simpa using hlt
   have hin : i = n := by omega
   have e1 : F.take i = F := List.take_of_length_le (by rw [HN.out]; omega)
   rw [e1] at H3
   clear hin e1
   go_wp2
   generalize hEb : F.foldl takeT E = Eb at *
   clear hEb
   obtain ⟨stp, hstp⟩ : ∃ stp : Es → Tri3 → Es, stp = fun E T => (cutS p T).foldl putF E := ⟨_, rfl⟩
   rw [← hstp] at HA
   have HSTP := Lib.hid hstp
   clear hstp
   go_loopw [9] (fun v9 wr => ∃ i : Nat, v9 = .int .i64 i ∧ i ≤ n ∧ HoldsMap eW eT okW wr b ((F.take i).foldl stp Eb) ∧ w.grownBy wr (some b) ∧ Box wr w.heap.size [.int .i64 p.x, .int .i64 p.y] 30 ∧ RowAt cT 6 wr a F) (fun v9 _ => n - (intOf v9).toNat)
   case atStart => exact ⟨0, rfl, Nat.zero_le _, H3, g3, Bp3, r3⟩
   case round =>
    clear H3 g3 Bp3 r3 q0 hlt hi
    obtain ⟨i, rfl, hi, H3, g3, Bp3, r3⟩ := hrel
    by_cases hlt : i < n
    ·have hil : i < F.length := by rw [HN.out]; exact hlt
     have q0 : (i : Int) < (n : Int) := by omega
     obtain ⟨ad, A, ea, eA, hA⟩ := r3.six (j := i) hil
     have hk2 := hok2 F[i] (List.getElem_mem hil)
     have HT := Lib.hid (show (F.take (i + 1)).foldl stp Eb = (cutS p F[i]).foldl putF ((F.take i).foldl stp Eb) by rw [zFv stp F Eb hil, HSTP.out])
     generalize F[i] = T at *
     generalize (F.take i).foldl stp Eb = E1 at *
     have cc := fun w0 => rcut_any T p w0
     change ∀ (w0 : World), Calls _ _ _ _ fun e w' => ∃ a cap, e = .returned (.slice a (cutS p T).length cap) ∧ RowAt cT 6 w' a (cutS p T) ∧ Below w0.heap.size w0 w' at cc
     have hcl : (cutS p T).length ≤ 3 := by
      unfold cutS
      rw [(zAp _).length_eq]
      unfold cutR
      split
      ·exact zJb p T
      ·simp
     generalize cutS p T = C at *
     obtain ⟨m, hm⟩ : ∃ m, C.length = m := ⟨_, rfl⟩
     have HM := Lib.hid hm
     rw [hm] at cc hcl
     clear hm
     obtain ⟨s0, s1, s2, s3, s4, s5⟩ := hA.cells
     have gP := Bp3.cells
     have ea2 := ea
     subst ea
     go_wp2_with fail
     refine wp_region_tail 5 (by kernel_rfl) (by kernel_rfl) (C := fun w' => ∃ p : Regrown, w' = grow (redrawn wr p.d) p.os) rgB ?_
     simp only [tK1, tK0, dP1, dP0]
     repeat (first | (refine zA0 (Eq.refl false) ?_; simp only [Act.put, sT2, sT1, sT0]) | (refine rWalk_step (fun K hK => ?_); go_simp; first | (refine hK _ ?_; clear hK K) | (apply Exists.intro; refine ⟨fun _ => ?_, hK _ ?_⟩; (first | fail); clear hK K)))
     refine rWalk_nil ?_
     intro w4 hb
     clear s0 s1 s2 s3 s4 s5 gP
     have Bp4 := Bp3.ee hb
     have r4 := r3.ee hb
     have H4 := H3.ee hb
     have g4 := zAa g3 hb
     clear hb hA Bp3 r3 H3 g3
     go_wp2_with fail
     refine (cc _).mono ?_
     rintro e w5 ⟨a5, cap5, rfl, r5c, hb⟩
     have Bp5 := Bp4.ee hb
     have r5 := r4.ee hb
     have H5 := H4.ee hb
     have g5 := zAa g4 hb
     clear hb Bp4 r4 H4 g4 cc
     go_wp2
     go_loopw [11] (fun v11 wr => ∃ k : Nat, v11 = .int .i64 k ∧ k ≤ m ∧ HoldsMap eW eT okW wr b ((C.take k).foldl putF E1) ∧ w.grownBy wr (some b) ∧ Box wr w.heap.size [.int .i64 p.x, .int .i64 p.y] 30 ∧ RowAt cT 6 wr (some ad) F ∧ RowAt cT 6 wr a5 C) (fun v11 _ => m - (intOf v11).toNat)
     case atStart => exact ⟨0, rfl, Nat.zero_le _, H5, g5, Bp5, r5, r5c⟩
     case round =>
      clear H5 g5 Bp5 r5 r5c
      obtain ⟨k, rfl, hkm, H5, g5, Bp5, r5, r5c⟩ := hrel
      by_cases hlk : k < m
      ·have hkl : k < C.length := by rw [HM.out]; exact hlk
       have q1 : (k : Int) < (m : Int) := by omega
       obtain ⟨ad2, A2, ea2', eA2, hA2⟩ := r5c.six (j := k) hkl
       have hkU := hk2 C[k] (List.getElem_mem hkl)
       have HU := Lib.hid (zFv putF C E1 hkl)
       generalize C[k] = U at *
       generalize (C.take k).foldl putF E1 = E2 at *
       have cp := rputF_any mb b E2 U hkU wr (Bm.turn Hm g5) H5
       obtain ⟨zA, t1, t2, t3, t4, t5, t6⟩ := hA2.f
       subst ea2'
       clear hkU
       go_wp2_with fail
       refine cp.mono ?_
       rintro e w6 ⟨rr, rfl, h6, H6⟩
       have Bp6 := Bp5.turn H5 h6
       have r6 := r5.turn cT_ne H5 h6
       have r6c := r5c.turn cT_ne H5 h6
       have g6 := zA9 g5 h6
       clear cp zA t1 t2 t3 t4 t5 t6 hA2 H5 Bp5 r5 r5c g5 h6
       go_wp2
       go_roundw
       case rel => exact ⟨k + 1, by go_num, by omega, by rw [HU.out]; exact H6, g6, Bp6, r6, r6c⟩
       case measure => simp [intOf]; omega
      ·have q1 : decide ((k : Int) < (m : Int)) = false := by simpa using hlk
       have hkm2 : k = m := by omega
       have e1 : C.take k = C := List.take_of_length_le (by rw [HM.out]; omega)
       rw [e1] at H5
       clear hkm2 e1 r5c
       go_wp2
       go_roundw
       case rel => exact ⟨i + 1, by go_num, by omega, by rw [HT.out]; exact H5, g5, Bp5, r5⟩
       case measure => simp [intOf]; omega
    ·have q0 : decide ((i : Int) < (n : Int)) = false := by simpa using hlt
     have hin : i = n := by omega
     have e1 : F.take i = F := List.take_of_length_le (by rw [HN.out]; omega)
     rw [e1, ← HA.out] at H3
     clear hin e1 r3
     clear hok2 hok HN HA HSTP hE hn1 hn0
     have Dw3 := Dw.turn Hm g3
     have hgo := fun (p : Nat → Prop) (hp : p b) => Frm.of_grown g3 (p := p) (fun g e => by cases e; exact hp)
     have F3 : Frm w wr (fun k => k = b ∨ k = db) := hgo _ (.inl rfl)
     have hwp : w.heap.size < wr.heap.size := Bp3.lt
     have hdb : db < w.heap.size := Dw.box.lt
     have hbd : (some b) ≠ (some db) := fun e => (Dw3.box.ne_map H3) (Option.some.inj e).symm
     obtain ⟨a9, c9, hv9, Dr, _⟩ := Dw3.rd
     have cO := ron_set_any db a9 c9 D.length D p wr Dr
     clear hgo g3 Dr hv9
     have Fp := Bp3.f
     cases hO : D.find? (onD p) with
     | none =>
      rw [hO] at cO
      change Calls _ _ _ _ fun e w' => e = .returned (.tuple #[.agg #[.int .i64 0, .int .i64 0, .int .i64 0, .int .i64 0, .int .i64 0], .bool false]) ∧ _ at cO
      have HO := Lib.hid hO
      clear hO
      go_wp2_with fail
      refine cO.mono ?_
      rintro e w6 ⟨rfl, hb⟩
      have H6 := H3.ee hb
      have D6 := Dw3.ee hb
      have F6 := F3.trans (Frm.of_below hb)
      clear cO hb Fp Bp3 H3 Dw3 F3 hwp
      go_wp2
      go_ret
      exact ⟨v, D, rfl, by rw [HEE.out]; exact H6.alloc _, D6.ext (by go_grown) rfl, .inl ⟨HO.out, rfl⟩, F6.trans (Frm.of_below (by go_grown)), fun g e => .inl e⟩
     | some X =>
      rw [hO] at cO
      change Calls _ _ _ _ fun e w' => e = .returned (.tuple #[.agg #[.int .i64 X.A.x, .int .i64 X.A.y, .int .i64 X.B.x, .int .i64 X.B.y, .int .i64 X.K], .bool true]) ∧ _ at cO
      have hXm := List.mem_of_find?_eq_some hO
      have hXk := HG.out X hXm
      have HO := Lib.hid hO
      clear hO hXm
      go_wp2_with fail
      refine cO.mono ?_
      rintro e w6 ⟨rfl, hb⟩
      have H6 := H3.ee hb
      have D6 := Dw3.ee hb
      have F6 := F3.trans (Frm.of_below hb)
      have Bp6 := Bp3.ee hb
      have hs6 := hb.size
      clear cO hb Fp Bp3 H3 Dw3 F3
      have Fp := Bp6.f
      go_wp2_with fail
      refine zA1 fun w7 hW => ?_
      have Bw : Box w7 w6.heap.size [.int .i64 X.A.x, .int .i64 X.A.y, .int .i64 X.B.x, .int .i64 X.B.y, .int .i64 X.K] 105 := by rw [hW]; exact Box.new rfl
      have Bp7 : Box w7 w.heap.size [.int .i64 p.x, .int .i64 p.y] 30 := by rw [hW]; exact Bp6.old _
      have H7 : HoldsMap eW eT okW w7 b EE := by rw [hW]; exact H6.alloc _
      have hb7 : Below w6.heap.size w6 w7 := by rw [hW]; go_grown
      have D7 := D6.ee hb7
      have F7 := F6.trans (Frm.of_below hb7)
      clear hW hb7 Fp Bp6 H6 D6 F6
      refine (rrem_any db v D X.A X.B w7 D7).mono ?_
      rintro e w8 ⟨r, v1, D1, rfl, hR, D8, f8, fr8⟩
      have Bw8 := f8.box Bw (by omega)
      have Bp8 := f8.box Bp7 (by omega)
      have H8 := H7.kept f8.grown hbd
      have F8 := F7.trans2 f8 (fun k hk _ => .inr hk)
      have h1 : D1.length ≤ D.length ∧ ∀ x ∈ D1, x ∈ D := by
       rcases hR with ⟨_, e, _⟩ | ⟨_, k, hk, _, e⟩
       ·rw [e]; exact ⟨Nat.le_refl _, fun x hx => hx⟩
       ·rw [e]
        refine ⟨by simp; omega, fun x hx => ?_⟩
        rcases List.mem_append.1 hx with hx | hx
        ·exact List.mem_of_mem_take hx
        ·exact List.mem_of_mem_drop hx
      have hs8 := f8.size
      have cp1 := zD5 db v1 D1 ⟨X.A, p, X.K⟩ (by omega) (fun x hx => HG.out x (h1.2 x hx)) hXk w8 D8
      have HR8 := Lib.hid hR
      have HL1 := Lib.hid h1
      clear hR Bw Bp7 H7 D7 F7 f8 h1
      have Fp := Bp8.f
      have Fw := Bw8.f
      go_wp2_with fail
      refine cp1.mono ?_
      rintro e w9 ⟨k1, v2, rfl, hk1, D9, f9, fr9⟩
      have Bw9 := f9.box Bw8 (by omega)
      have Bp9 := f9.box Bp8 (by omega)
      have H9 := H8.kept f9.grown hbd
      have F9 := F8.trans2 f9 (fun k hk _ => .inr hk)
      have hln : (D1.take k1 ++ (⟨X.A, p, X.K⟩ : Wl) :: D1.drop k1).length = D1.length + 1 := by
       rw [List.length_append, List.length_cons, List.length_take, List.length_drop]; have := hk1.1; omega
      have cp2 := zD5 db v2 (D1.take k1 ++ (⟨X.A, p, X.K⟩ : Wl) :: D1.drop k1) ⟨p, X.B, X.K⟩ (by rw [hln]; have := HL1.out.1; omega) (fun x hx => by
       rcases List.mem_append.1 hx with hx | hx
       ·exact HG.out x (HL1.out.2 x (List.mem_of_mem_take hx))
       ·rcases List.mem_cons.1 hx with rfl | hx
        ·exact hXk
        ·exact HG.out x (HL1.out.2 x (List.mem_of_mem_drop hx))) hXk w9 D9
      have HK1 := Lib.hid hk1
      clear Fp Fw Bp8 Bw8 H8 D8 F8 f9 cp1 hln hk1
      have Fp := Bp9.f
      have Fw := Bw9.f
      go_wp2_with fail
      refine cp2.mono ?_
      rintro e w10 ⟨k2, v3, rfl, hk2', D10, f10, fr10⟩
      have H10 := H9.kept f10.grown hbd
      have F10 := F9.trans2 f10 (fun k hk _ => .inr hk)
      have HADD := Lib.hid (show AddD D p ((D1.take k1 ++ (⟨X.A, p, X.K⟩ : Wl) :: D1.drop k1).take k2 ++ (⟨p, X.B, X.K⟩ : Wl) :: (D1.take k1 ++ (⟨X.A, p, X.K⟩ : Wl) :: D1.drop k1).drop k2) from .inr ⟨X, r, D1, k1, k2, HO.out, HR8.out, HK1.out, hk2', rfl⟩)
      have HV := Lib.hid (show ∀ g, v3.ownBlock = some g → v.ownBlock = some g ∨ w.heap.size ≤ g from fun g e => .inr (by have := fr10 g e; have := F9.size; omega))
      clear Fp Fw Bp9 Bw9 H9 D9 F9 f10 cp2 hk2' fr10 fr9 fr8
      generalize ((D1.take k1 ++ (⟨X.A, p, X.K⟩ : Wl) :: D1.drop k1).take k2 ++ (⟨p, X.B, X.K⟩ : Wl) :: (D1.take k1 ++ (⟨X.A, p, X.K⟩ : Wl) :: D1.drop k1).drop k2) = DD at *
      go_wp2
      go_ret
      exact ⟨v3, DD, rfl, by rw [HEE.out]; exact H10, D10, HADD.out, F10, HV.out⟩
end Go.Proofs.YtmobnmjjmafibaaGreat
namespace Go.Proofs.YtmobnmjjmafibaaGreat
open Go.RowKit Go.Sort
theorem zF2 (f : Tri3 → Bool) : ∀ (L : List Tri3), (∀ T ∈ L, valT T = true) → heads f (L.flatMap wys) = L.filter f
 | [], _ => rfl
 | T :: L, h => by
  obtain ⟨a1, a2, a3⟩ := zEl (h T (by simp))
  rw [List.flatMap_cons, zAt, zF2 f L (fun S hS => h S (by simp [hS]))]
  have : heads f (wys T) = if f T = true then [T] else [] := by
   unfold heads wys
   cases hf : f T <;> simp [Ne.symm a1, a3, hf]
  rw [this]
  cases hf : f T <;> simp [hf]
theorem zH1 {E : Es} {L : List Tri3} (h : Good E L) (f : Tri3 → Bool) : (heads f E).Perm (L.filter f) := by
 have := zCp (p := f) h.perm
 rwa [zF2 f L h.val] at this
def isCb (p : Pt) (T : Tri3) : Bool := decide (p = T.A) || (decide (p = T.B) || decide (p = T.C))
theorem zJ1 {p : Pt} {T : Tri3} : isCb p T = true ↔ isCnr T p := by
 unfold isCb isCnr; simp
theorem zFb (p : Pt) : ∀ (L : List Tri3), (∀ T ∈ L, valT T = true) → starE p (L.flatMap wys) = L.filter (isCb p)
 | [], _ => rfl
 | T :: L, h => by
  obtain ⟨a1, a2, a3⟩ := zEl (h T (by simp))
  rw [List.flatMap_cons, zD4, zFb p L (fun S hS => h S (by simp [hS]))]
  have : starE p (wys T) = if isCb p T = true then [T] else [] := by
   unfold starE wys isCb
   by_cases h1 : p = T.A
   ·subst h1; simp [Ne.symm a1, a3]
   ·by_cases h2 : p = T.B
    ·subst h2; simp [a1, Ne.symm a2]
    ·by_cases h3 : p = T.C
     ·subst h3; simp [Ne.symm a3, a2]
     ·simp [h1, h2, h3, Ne.symm h1, Ne.symm h2, Ne.symm h3]
  rw [this]
  cases hf : isCb p T <;> simp [hf]
theorem Good.star_f {E : Es} {L : List Tri3} (h : Good E L) (p : Pt) : (starE p E).Perm (L.filter (isCb p)) := by
 have := zGo (p := p) h.perm
 rwa [zFb p L h.val] at this
theorem Good.star_nil {E : Es} {L : List Tri3} (h : Good E L) (p : Pt) : starE p E = [] ↔ ¬ someC L p := by
 constructor
 ·intro e ⟨T, hT, hc⟩
  have := h.star_f p
  rw [e] at this
  have hm : T ∈ L.filter (isCb p) := List.mem_filter.2 ⟨hT, zJ1.2 hc⟩
  rw [← this.mem_iff] at hm
  cases hm
 ·intro hn
  have := h.star_f p
  refine List.Perm.eq_nil (this.trans ?_)
  rw [List.filter_eq_nil_iff.2 (fun T hT hc => hn ⟨T, hT, zJ1.1 hc⟩)]
theorem zHt {f g : Tri3 → List Tri3} : ∀ {L : List Tri3}, (∀ T ∈ L, (f T).Perm (g T)) → (L.flatMap f).Perm (L.flatMap g)
 | [], _ => .refl _
 | T :: L, h => by
  rw [List.flatMap_cons, List.flatMap_cons]
  exact (h T (by simp)).append (zHt fun S hS => h S (by simp [hS]))
theorem Good.putsF : ∀ {I : List Tri3} {E : Es} {M : List Tri3}, Good E M → (∀ T ∈ I, valT T = true) → ((I ++ M).flatMap ways).Nodup → Good (I.foldl putF E) (I ++ M)
 | [], _, _, h, _, _ => h
 | T :: I, E, M, h, hv, hn => by
  have hn' : (ways T ++ (I ++ M).flatMap ways).Nodup := by rw [← List.flatMap_cons]; exact hn
  rw [List.nodup_append] at hn'
  obtain ⟨h1, h2⟩ := Good.put (E := E) (T := T) (M := M) h (hv T (by simp)) (fun w hw k => hn'.2.2 w hw w (by rw [List.flatMap_append]; exact List.mem_append_right _ k) rfl)
  have := Good.putsF (I := I) h2 (fun S hS => hv S (by simp [hS])) ((zB5 (List.perm_middle (a := T) (l₁ := I) (l₂ := M))).nodup_iff.2 hn)
  have e : putF E T = putT E T := by unfold putF; rw [if_pos (zD9 h1)]
  rw [List.foldl_cons, e]
  exact this.order List.perm_middle
theorem zI4 (f : Es → Tri3 → Es) (g : Tri3 → List Tri3) : ∀ (L : List Tri3) (E : Es), L.foldl (fun E T => (g T).foldl f E) E = (L.flatMap g).foldl f E
 | [], _ => rfl
 | T :: L, E => by rw [List.foldl_cons, List.flatMap_cons, List.foldl_append, zI4 f g L]
section
variable {W H : Int} {E : Es} {L : List Tri3} (hW : W < 16777216) (hH : H < 16777216) (g : Good E L) (t : Tiles W H L) {p : Pt}
include hW hH g t
omit t in
theorem zK8 (hp : inBox W H p) : (atE E p).Perm (L.filter fun T => hasP T p) ∧ ∀ T ∈ L, hasP T p = true ↔ hasT T p := by
 have vp : vld p = true := by rw [zAr]; unfold inBox at hp; omega
 refine ⟨?_, fun T hT => ?_⟩
 ·unfold atE; exact (zAp _).trans (zH1 g _)
 ·rw [zJ4 (g.val T hT) vp]; rfl
omit hW hH in
theorem at_none (hp : ¬ inBox W H p) : atE E p = [] := by
 have h1 : (atE E p).Perm (L.filter fun T => hasP T p) := by unfold atE; exact (zAp _).trans (zH1 g _)
 refine List.Perm.eq_nil (h1.trans ?_)
 rw [List.filter_eq_nil_iff.2]
 intro T hT hh
 have vp : vld p = true := by
  unfold hasP at hh
  simp only [Bool.and_eq_true] at hh
  exact hh.2.1
 exact hp (has_box (t.pos T hT) (t.box T hT) ((zJ4 (g.val T hT) vp).1 hh))
theorem zK7 (hW0 : 0 < W) (hH0 : 0 < H) (hp : inBox W H p) : atE E p ≠ [] := by
 obtain ⟨h1, h2⟩ := zK8 hW hH g hp
 obtain ⟨T, hT, k⟩ := t.covers hW0 hH0 hp
 intro e
 rw [e] at h1
 have : T ∈ L.filter fun T => hasP T p := List.mem_filter.2 ⟨hT, (h2 T hT).2 k⟩
 rw [← h1.mem_iff] at this
 cases this
theorem add_good (hW0 : 0 < W) (hH0 : 0 < H) (hp : inBox W H p) (hn : ¬ someC L p) :
    (∀ T ∈ atE E p, valT T = true) ∧ (∀ T ∈ atE E p, ∀ U ∈ cutS p T, valT U = true) ∧ (atE E p).length ≤ 2 ∧
    ∃ L', Good (addPE E p) L' ∧ Tiles W H L' ∧ (∀ q, someC L' q ↔ someC L q ∨ q = p) ∧ (L'.length = L.length + 2 ∧ ¬ atRim W H p ∨ L'.length = L.length + 1 ∧ atRim W H p) := by
 obtain ⟨h1, h2⟩ := zK8 hW hH g hp
 have hn' : ∀ T ∈ L, ¬ isCnr T p := fun T hT hc => hn ⟨T, hT, hc⟩
 obtain ⟨F, hF, f1, f2⟩ := t.spots hW0 hH0 hp hn' h2
 have fa := h1.trans f1
 have hv : ∀ T ∈ atE E p, valT T = true := fun T hT => g.val T (List.mem_filter.1 (h1.mem_iff.1 hT)).1
 have hcut : ∀ T ∈ atE E p, (cutS p T).Perm (cutP p T) := by
  intro T hT
  have hm := List.mem_filter.1 (h1.mem_iff.1 hT)
  have hc := hn' T hm.1
  have : cutOk T p = true := by
   unfold cutOk isCnr at *
   simp only [not_or] at hc
   rw [hm.2, zBd.2 hc.1, zBd.2 hc.2.1, zBd.2 hc.2.2]; rfl
  unfold cutS cutR
  rw [if_pos this]
  exact zAp _
 obtain ⟨t', tv⟩ := tiles_cut t hW0 hH0 hW hH hp hn' hF f2
 obtain ⟨c1, c2⟩ := cut_counts t hW hH hp hF
 have pI : ((atE E p).flatMap (cutS p)).Perm (F.flatMap (cutP p)) := (zHt hcut).trans (fa.flatMap_right _)
 have lenF : F.length ≤ 2 := by cases hF <;> simp
 refine ⟨hv, fun T hT U hU => (tv U (pI.mem_iff.1 (List.mem_flatMap.2 ⟨T, hT, hU⟩))).1, by rw [fa.length_eq]; exact lenF, (atE E p).flatMap (cutS p) ++ L.filter (fun x => !hasP x p), ?_, ?_, ?_, ?_⟩
 ·unfold addPE
  rw [zI4]
  have k := Good.takesF (F := atE E p) (E := E) (M := L.filter fun x => !hasP x p) (g.order (f2.trans (fa.symm.append_right _)))
  refine Good.putsF k (fun U hU => (tv U (pI.mem_iff.1 hU)).1) ?_
  exact (zB5 (pI.append_right _)).nodup_iff.2 t'.once
 ·exact t'.perm (pI.symm.append_right _)
 ·intro q
  rw [zEw, zDf pI, c1, zDf f2, zEw]
  constructor
  ·rintro ((k | k) | k)
   ·exact .inl (.inl k)
   ·exact .inr k
   ·exact .inl (.inr k)
  ·rintro ((k | k) | k)
   ·exact .inl (.inl k)
   ·exact .inr k
   ·exact .inl (.inr k)
 ·have e1 : L.length = F.length + (L.filter fun x => !hasP x p).length := by rw [f2.length_eq, List.length_append]
  rw [List.length_append, pI.length_eq]
  rcases c2 with ⟨k1, k2⟩ | ⟨k1, k2⟩
  ·exact .inl ⟨by omega, k2⟩
  ·exact .inr ⟨by omega, k2⟩
end
attribute [local go_sem] rOper rAt rUpon cell_set sg_i64 sg_u64 alloc_cell alloc_frozen
attribute [local go_sem 10000] pt_eql pt_neq tri_eql
attribute [local irreducible] rWalk
structure CdtAt (w : World) (cb mb b db : Nat) (v : Value) (W H : Int) (E : Es) (D : List Wl) : Prop where
 box : Box w cb [.int .i64 W, .int .i64 H, .pointer (some ⟨mb, 0, none⟩), .pointer (some ⟨db, 0, none⟩)] 45
 mesh : Box w mb [.map (some b)] 41
 map : HoldsMap eW eT okW w b E
 doc : DocAt w db v D
 cdb : cb ≠ db
 mdb : mb ≠ db
theorem CdtAt.ext {w w' : World} {cb mb b db n : Nat} {v : Value} {W H : Int} {E : Es} {D : List Wl} (S : CdtAt w cb mb b db v W H E D) (hb : Below n w w') (hn : n = w.heap.size) : CdtAt w' cb mb b db v W H E D :=
 ⟨S.box.ext hb hn, S.mesh.ext hb hn, S.map.ext hb hn, S.doc.ext hb hn, S.cdb, S.mdb⟩
theorem CdtAt.ee {w w' : World} {cb mb b db : Nat} {v : Value} {W H : Int} {E : Es} {D : List Wl} (S : CdtAt w cb mb b db v W H E D) (hb : Below w.heap.size w w') : CdtAt w' cb mb b db v W H E D := S.ext hb rfl
structure CInv (W H : Int) (E : Es) (L : List Tri3) (D : List Wl) : Prop where
 good : Good E L
 fix : Fixed W H (wll D) L
 kinds : ∀ x ∈ D, 0 ≤ x.K ∧ x.K ≤ 2
theorem add_kinds {D D' : List Wl} {p : Pt} (h : AddD D p D') (hk : ∀ x ∈ D, 0 ≤ x.K ∧ x.K ≤ 2) : (∀ x ∈ D', 0 ≤ x.K ∧ x.K ≤ 2) ∧ D'.length ≤ D.length + 2 := by
 rcases h with ⟨_, e⟩ | ⟨X, r, D1, k1, k2, hX, hR, h1, h2, e⟩
 ·rw [e]; exact ⟨hk, by omega⟩
 ·have hXk := hk X (List.mem_of_find?_eq_some hX)
  have hD1 : D1.length ≤ D.length ∧ ∀ x ∈ D1, x ∈ D := by
   rcases hR with ⟨_, e, _⟩ | ⟨_, k, hk, _, e⟩
   ·rw [e]; exact ⟨Nat.le_refl _, fun x hx => hx⟩
   ·rw [e]
    refine ⟨by simp; omega, fun x hx => ?_⟩
    rcases List.mem_append.1 hx with hx | hx
    ·exact List.mem_of_mem_take hx
    ·exact List.mem_of_mem_drop hx
  have ins : ∀ (L : List Wl) (Y : Wl) (k : Nat), (∀ x ∈ L, 0 ≤ x.K ∧ x.K ≤ 2) → (0 ≤ Y.K ∧ Y.K ≤ 2) → ∀ x ∈ insW L Y k, 0 ≤ x.K ∧ x.K ≤ 2 := by
   intro L Y k hL hY x hx
   unfold insW at hx
   rcases List.mem_append.1 hx with hx | hx
   ·exact hL x (List.mem_of_mem_take hx)
   ·rcases List.mem_cons.1 hx with rfl | hx
    ·exact hY
    ·exact hL x (List.mem_of_mem_drop hx)
  have len : ∀ (L : List Wl) (Y : Wl) (k : Nat), (insW L Y k).length = L.length + 1 := by
   intro L Y k
   unfold insW
   have := (zE1 (L := L) (X := Y) k).length_eq
   simpa using this
  rw [e]
  exact ⟨ins _ _ _ (ins _ _ _ (fun x hx => hk x (hD1.2 x hx)) hXk) hXk, by rw [len, len]; omega⟩
def AddRes (W H : Int) (L : List Tri3) (p : Pt) (r : Int) : Prop := (r = 1 ∧ ¬ inBox W H p) ∨ (r = 5 ∧ inBox W H p ∧ someC L p) ∨ (r = 0 ∧ inBox W H p ∧ ¬ someC L p)
def CAddPost (cb mb b db : Nat) (W H : Int) (L : List Tri3) (D : List Wl) (p : Pt) (w : World) (e : Ending) (w' : World) : Prop :=
 ∃ r v' E' L' D', e = .returned (.int .i64 r) ∧ CdtAt w' cb mb b db v' W H E' D' ∧ CInv W H E' L' D' ∧ AddRes W H L p r ∧ (∀ q, someC L' q ↔ someC L q ∨ (q = p ∧ inBox W H p)) ∧ L'.length ≤ L.length + 2 ∧ D'.length ≤ D.length + 2 ∧ Frm w w' (fun k => k = b ∨ k = db)
theorem rcadd_any (cb mb b db : Nat) (v : Value) (W H : Int) (hW0 : 0 < W) (hH0 : 0 < H) (hW : W < 16777216) (hH : H < 16777216) (E : Es) (L : List Tri3) (D : List Wl) (hI : CInv W H E L D) (hL : L.length ≤ 20000) (hD : D.length ≤ 20000) (p : Pt) (w : World) (S : CdtAt w cb mb b db v W H E D) :
    Calls Tryz.prog 31 #[.pointer (some ⟨cb, 0, none⟩), .agg #[.int .i64 p.x, .int .i64 p.y]] w (CAddPost cb mb b db W H L D p w) := by
 have hE : E.length ≤ 1000000 := by rw [hI.good.len]; omega
 by_cases hb0 : inBox W H p
 ·by_cases hc0 : someC L p
  ·have ca := fun w0 B1 H1 => raddP_have mb b db E p hE w0 B1 H1 (zK7 hW hH hI.good hI.fix.tiles hW0 hH0 hb0) (fun e => (hI.good.star_nil p).1 e hc0)
   have HR := Lib.hid (show AddRes W H L p 5 from .inr (.inl ⟨rfl, hb0, hc0⟩))
   have HS := Lib.hid (show ∀ q, someC L q ↔ someC L q ∨ (q = p ∧ inBox W H p) from fun q => ⟨.inl, fun k => by rcases k with k | ⟨rfl, _⟩; exact k; exact hc0⟩)
   clear hb0 hc0 hE
   go_enter Tryz.func31, Tryz.ntmps31
   go_wp2_with fail
   refine zA2 fun w1 hW => ?_
   have Bp : Box w1 w.heap.size [.int .i64 p.x, .int .i64 p.y] 30 := by rw [hW]; exact Box.new rfl
   have hw : Below w.heap.size w w1 := by rw [hW]; go_grown
   clear hW
   have S1 := S.ee hw
   have g1 := Bp.cells
   have g2 := S1.box.cells
   refine wp_region_tail 9 (by kernel_rfl) (by kernel_rfl) (C := fun w' => ∃ p : Regrown, w' = grow (redrawn w1 p.d) p.os) rgB ?_
   simp only [tK1, tK0, dP1, dP0]
   repeat (first | (refine zA0 (Eq.refl false) ?_; simp only [Act.put, sT2, sT1, sT0]) | (refine rWalk_step (fun K hK => ?_); go_simp; first | (refine hK _ ?_; clear hK K) | (apply Exists.intro; refine ⟨fun _ => ?_, hK _ ?_⟩; (first | fail); clear hK K)))
   refine rWalk_nil ?_
   intro w2 hb
   clear g1 g2
   have hw2 := (upB hw hb)
   clear hb Bp S1 hw
   go_wp2_with fail
   refine (ca _ (S.mesh.ee hw2) (S.map.ee hw2)).mono ?_
   rintro e w3 ⟨rfl, hb⟩
   have hw3 := (upB hw2 hb)
   clear hb ca hw2
   go_wp2
   go_ret
   exact ⟨5, v, E, L, D, rfl, S.ee hw3, hI, HR.out, HS.out, by omega, by omega, Frm.of_below hw3⟩
  ·obtain ⟨hv, hu, hlen, L1, g1', t1', s1', n1'⟩ := add_good hW hH hI.good hI.fix.tiles hW0 hH0 hb0 hc0
   have ca := fun w0 B1 H1 D1 => raddP_ok mb b db E p v D hE (by omega) (fun T hT => zBx (hv T hT)) (fun T hT U hU => zBx (hu T hT U hU)) (zK7 hW hH hI.good hI.fix.tiles hW0 hH0 hb0) ((hI.good.star_nil p).2 hc0) w0 B1 H1 D1 (by omega) hI.kinds
   have HR := Lib.hid (show AddRes W H L p 0 from .inr (.inr ⟨rfl, hb0, hc0⟩))
   have HS := Lib.hid (show ∀ q, someC L1 q ↔ someC L q ∨ (q = p ∧ inBox W H p) from fun q => by rw [s1' q]; simp [hb0])
   have HL1 := Lib.hid (show L1.length ≤ L.length + 2 by rcases n1' with ⟨k, _⟩ | ⟨k, _⟩ <;> omega)
   have cr := fun a0 c n D1 w0 B1 H1 R1 => zFf mb b db a0 c n (addPE E p) L1 D1 W H hW hH (by have := HL1.out; omega) g1' t1' w0 B1 H1 R1
   change ∀ (w0 : World) B1 H1 D1, Calls _ _ _ _ (AddPost b db E p v D w0) at ca
   clear hb0 hc0 hE hv hu hlen g1' t1' s1' n1'
   go_enter Tryz.func31, Tryz.ntmps31
   go_wp2_with fail
   refine zA2 fun w1 hW' => ?_
   have Bp : Box w1 w.heap.size [.int .i64 p.x, .int .i64 p.y] 30 := by rw [hW']; exact Box.new rfl
   have hw : Below w.heap.size w w1 := by rw [hW']; go_grown
   clear hW'
   have S1 := S.ee hw
   have g1 := Bp.cells
   have g2 := S1.box.cells
   refine wp_region_tail 9 (by kernel_rfl) (by kernel_rfl) (C := fun w' => ∃ p : Regrown, w' = grow (redrawn w1 p.d) p.os) rgB ?_
   simp only [tK1, tK0, dP1, dP0]
   repeat (first | (refine zA0 (Eq.refl false) ?_; simp only [Act.put, sT2, sT1, sT0]) | (refine rWalk_step (fun K hK => ?_); go_simp; first | (refine hK _ ?_; clear hK K) | (apply Exists.intro; refine ⟨fun _ => ?_, hK _ ?_⟩; (first | fail); clear hK K)))
   refine rWalk_nil ?_
   intro w2 hb
   clear g1 g2
   have hw2 := (upB hw hb)
   clear hb Bp S1 hw
   go_wp2_with fail
   have S2 := S.ee hw2
   refine (ca _ S2.mesh S2.map S2.doc).mono ?_
   rintro e w3 ⟨v1, D1, rfl, H3, D3, hA, f3, _⟩
   have nb : ∀ {x : Nat} {cs : List Value} {T : TypeId}, Box w2 x cs T → x ≠ b := fun h => h.ne_map S2.map
   have S3 : CdtAt w3 cb mb b db v1 W H (addPE E p) D1 := ⟨f3.box S2.box (fun k => by rcases k with k | k; exact nb S2.box k; exact S.cdb k), f3.box S2.mesh (fun k => by rcases k with k | k; exact nb S2.mesh k; exact S.mdb k), H3, D3, S.cdb, S.mdb⟩
   have F3 : Frm w w3 (fun k => k = b ∨ k = db) := (Frm.of_below hw2).trans f3
   have hk := add_kinds hA hI.kinds
   have HK := Lib.hid hk
   clear nb ca H3 D3 hA f3 S2 hw2 hk
   generalize addPE E p = E1 at *
   have g2 := S3.box.cells
   go_wp2_with fail
   refine wp_region_tail 8 (by kernel_rfl) (by kernel_rfl) (C := fun w' => ∃ p : Regrown, w' = grow (redrawn w3 p.d) p.os) rgB ?_
   simp only [tK1, tK0, dP1, dP0]
   repeat (first | (refine zA0 (Eq.refl false) ?_; simp only [Act.put, sT2, sT1, sT0]) | (refine rWalk_step (fun K hK => ?_); go_simp; first | (refine hK _ ?_; clear hK K) | (apply Exists.intro; refine ⟨fun _ => ?_, hK _ ?_⟩; (first | fail); clear hK K)))
   refine rWalk_nil ?_
   intro w4 hb
   clear g2
   have S4 := S3.ee hb
   have F4 := F3.trans (Frm.of_below hb)
   clear hb S3 F3
   obtain ⟨a9, c9, hv9, Dr, _⟩ := S4.doc.rd
   have cr4 := cr a9 c9 D1.length D1 w4 S4.mesh S4.map Dr
   clear cr hv9 Dr
   go_wp2_with fail
   refine cr4.mono ?_
   rintro e w5 ⟨rfl, E2, L2, g5, H5, r5, f5⟩
   have S5 : CdtAt w5 cb mb b db v1 W H E2 D1 := ⟨S4.box.turn S4.map g5, S4.mesh.turn S4.map g5, H5, S4.doc.turn S4.map g5, S.cdb, S.mdb⟩
   have F5 := F4.trans2 (Frm.of_grown g5 (p := fun k => k = b) (fun g e => by cases e; rfl)) (fun k hk _ => .inl hk)
   have HI5 := Lib.hid (show CInv W H E2 L2 D1 from ⟨r5.good, f5, HK.out.1⟩)
   have HS5 := Lib.hid (show ∀ q, someC L2 q ↔ someC L q ∨ (q = p ∧ inBox W H p) from fun q => (r5.kept.cnr q).trans (HS.out q))
   have HL5 := Lib.hid (show L2.length ≤ L.length + 2 by rw [r5.kept.len]; exact HL1.out)
   clear cr4 g5 H5 r5 f5 S4 F4
   go_wp2
   go_ret
   exact ⟨0, v1, E2, L2, D1, rfl, S5, HI5.out, HR.out, HS5.out, HL5.out, HK.out.2, F5⟩
 ·have ca := fun w0 B1 H1 => raddP_none mb b db E p hE w0 B1 H1 (at_none hI.good hI.fix.tiles hb0)
  have HR := Lib.hid (show AddRes W H L p 1 from .inl ⟨rfl, hb0⟩)
  have HS := Lib.hid (show ∀ q, someC L q ↔ someC L q ∨ (q = p ∧ inBox W H p) from fun q => ⟨.inl, fun k => by rcases k with k | ⟨_, k⟩; exact k; exact absurd k hb0⟩)
  clear hb0 hE
  go_enter Tryz.func31, Tryz.ntmps31
  go_wp2_with fail
  refine zA2 fun w1 hW => ?_
  have Bp : Box w1 w.heap.size [.int .i64 p.x, .int .i64 p.y] 30 := by rw [hW]; exact Box.new rfl
  have hw : Below w.heap.size w w1 := by rw [hW]; go_grown
  clear hW
  have S1 := S.ee hw
  have g1 := Bp.cells
  have g2 := S1.box.cells
  refine wp_region_tail 9 (by kernel_rfl) (by kernel_rfl) (C := fun w' => ∃ p : Regrown, w' = grow (redrawn w1 p.d) p.os) rgB ?_
  simp only [tK1, tK0, dP1, dP0]
  repeat (first | (refine zA0 (Eq.refl false) ?_; simp only [Act.put, sT2, sT1, sT0]) | (refine rWalk_step (fun K hK => ?_); go_simp; first | (refine hK _ ?_; clear hK K) | (apply Exists.intro; refine ⟨fun _ => ?_, hK _ ?_⟩; (first | fail); clear hK K)))
  refine rWalk_nil ?_
  intro w2 hb
  clear g1 g2
  have hw2 := (upB hw hb)
  clear hb Bp S1 hw
  go_wp2_with fail
  refine (ca _ (S.mesh.ee hw2) (S.map.ee hw2)).mono ?_
  rintro e w3 ⟨rfl, hb⟩
  have hw3 := (upB hw2 hb)
  clear hb ca hw2
  go_wp2
  go_ret
  exact ⟨1, v, E, L, D, rfl, S.ee hw3, hI, HR.out, HS.out, by omega, by omega, Frm.of_below hw3⟩
theorem zE8 (T : Tri3) (a b : Pt) (w : World) : Calls Tryz.prog 76 #[.agg #[.int .i64 T.A.x, .int .i64 T.A.y, .int .i64 T.B.x, .int .i64 T.B.y, .int .i64 T.C.x, .int .i64 T.C.y], .agg #[.int .i64 a.x, .int .i64 a.y], .agg #[.int .i64 b.x, .int .i64 b.y]] w fun e w' => e = .returned (.agg #[.int .i64 (apx T a b).x, .int .i64 (apx T a b).y]) ∧ Below w.heap.size w w' := by
 unfold apx
 cases a0 : peqI T.A.x T.A.y a.x a.y with
 | false =>
  cases b0 : peqI T.A.x T.A.y b.x b.y with
  | false => rw [if_pos ⟨rfl, rfl⟩]; exact apex_0 T a b a0 b0 w
  | true =>
   rw [if_neg (by simp)]
   cases a1 : peqI T.B.x T.B.y a.x a.y with
   | false =>
    cases b1 : peqI T.B.x T.B.y b.x b.y with
    | false => rw [if_pos ⟨rfl, rfl⟩]; exact apex_20 T a b a0 b0 a1 b1 w
    | true => rw [if_neg (by simp)]; exact apex_22 T a b a0 b0 a1 b1 w
   | true => rw [if_neg (by simp)]; exact apex_21 T a b a0 b0 a1 w
 | true =>
  rw [if_neg (by simp)]
  cases a1 : peqI T.B.x T.B.y a.x a.y with
  | false =>
   cases b1 : peqI T.B.x T.B.y b.x b.y with
   | false => rw [if_pos ⟨rfl, rfl⟩]; exact apex_10 T a b a0 a1 b1 w
   | true => rw [if_neg (by simp)]; exact apex_12 T a b a0 a1 b1 w
  | true => rw [if_neg (by simp)]; exact apex_11 T a b a0 a1 w
theorem zGt (mb b : Nat) (E : Es) (a1 a2 : Option Addr) (cap1 cap2 n1 n2 : Nat) (L1 L2 : List Tri3) (hn1 : Hid (L1.length = n1)) (hm1 : n1 ≤ 1000000) (hok1 : ∀ T ∈ L1, okT T) (hn2 : Hid (L2.length = n2)) (hm2 : n2 ≤ 1000000) (hok2 : ∀ T ∈ L2, okT T) (h1 : (takeRun E L1).1 = n1) (h2 : (putRun (takeRun E L1).2 L2).1 = n2) (w : World) (Bm : Box w mb [.map (some b)] 89) (Hm : HoldsMap eW eT okW w b E) (Hr1 : RowAt cT 6 w a1 L1) (Hr2 : RowAt cT 6 w a2 L2) :
    Calls Tryz.prog 35 #[.pointer (some ⟨mb, 0, none⟩), .slice a1 n1 cap1, .slice a2 n2 cap2] w fun e w' => e = .returned (.int .i64 0) ∧ w.grownBy w' (some b) ∧ HoldsMap eW eT okW w' b (putRun (takeRun E L1).2 L2).2 := by
 have c1 := zEs mb b E a1 cap1 n1 L1 hn1 hm1 hok1
 rw [h1] at c1
 generalize (takeRun E L1).2 = F at *
 have c2 := zE3 mb b F a2 cap2 n2 L2 hn2 hm2 hok2
 rw [h2] at c2
 generalize (putRun F L2).2 = G at *
 clear h1 h2 hok1 hok2 hn1 hn2
 have d1 : decide ((n1 : Int) < (n1 : Int)) = false := by simp
 have d2 : decide ((n2 : Int) < (n2 : Int)) = false := by simp
 go_enter Tryz.func35, Tryz.ntmps35
 go_wp2_with fail
 refine (c1 _ Bm Hm Hr1).mono ?_
 rintro e w1 ⟨rfl, hg, H1⟩
 replace Bm := Bm.turn Hm hg
 replace Hr2 := Hr2.turn cT_ne Hm hg
 clear Hm Hr1
 go_wp2_with fail
 refine (c2 _ Bm H1 Hr2).mono ?_
 rintro e w2 ⟨rfl, hh, H2⟩
 replace hg := zA9 hg hh
 clear hh
 go_wp2
 go_ret
 exact ⟨rfl, hg, H2⟩
theorem zBp {w : World} {g : Nat} {S : List Tri3} (h : Box w g (S.flatMap cT) 38) : RowAt cT 6 w (some ⟨g, 0, none⟩) S := fun j x hj => by
 have hl := (List.getElem?_eq_some_iff.1 hj)
 refine ⟨_, rfl, h.lt, fun i u hu => ?_⟩
 have hi : i < 6 := (List.getElem?_eq_some_iff.1 hu).1
 rw [Addr.add_lit, Addr.add_lit, h.f.1, Nat.zero_add, zB1 zGk S j i x hj hi]
 exact hu
theorem zK3 (mb b : Nat) (E : Es) (p q : Pt) (hk : okW (p, q)) (h0 : getE E (p, q) = none) (w : World) (Bm : Box w mb [.map (some b)] 89) (Hm : HoldsMap eW eT okW w b E) :
    Calls Tryz.prog 39 #[.pointer (some ⟨mb, 0, none⟩), .agg #[.int .i64 p.x, .int .i64 p.y], .agg #[.int .i64 q.x, .int .i64 q.y]] w fun e w' => e = .returned (.int .i64 16) ∧ Below w.heap.size w w' := by
 have cl := zJm mb b E p q h0 hk
 clear h0
 go_enter Tryz.func39, Tryz.ntmps39
 go_wp2_with fail
 refine zA1 fun W1 hW => ?_
 have Bp : Box W1 (w.heap.size) [.int .i64 p.x, .int .i64 p.y] 30 := by rw [hW]; exact (Box.new rfl).old _
 have Bq : Box W1 (w.heap.size + 1) [.int .i64 q.x, .int .i64 q.y] 30 := by rw [hW]; exact Box.new (by simp)
 have hw : Below w.heap.size w W1 := by rw [hW]; go_grown
 clear hW
 refine (cl _ (Bm.ee hw) (Hm.ee hw)).mono ?_
 rintro e w2 ⟨rfl, hb⟩
 replace Bp := Bp.ee hb
 replace Bq := Bq.ee hb
 replace hw := upB hw hb
 clear hb
 have F_pq := J2 Bp.f Bq.f
 go_wp2
 go_ret
 exact ⟨rfl, by have hl := hw.size; go_grown⟩
theorem flip_n1 (mb b : Nat) (E : Es) (p q : Pt) (hk : okW (p, q)) (S : Tri3) (h0 : getE E (p, q) = some S) (h1 : getE E (q, p) = none) (w : World) (Bm : Box w mb [.map (some b)] 89) (Hm : HoldsMap eW eT okW w b E) :
    Calls Tryz.prog 39 #[.pointer (some ⟨mb, 0, none⟩), .agg #[.int .i64 p.x, .int .i64 p.y], .agg #[.int .i64 q.x, .int .i64 q.y]] w fun e w' => e = .returned (.int .i64 16) ∧ Below w.heap.size w w' := by
 have cl := zG8 mb b E p q S h0 hk
 have cr := zJm mb b E q p h1 ⟨hk.2, hk.1⟩
 clear h0 h1
 go_enter Tryz.func39, Tryz.ntmps39
 go_wp2_with fail
 refine zA1 fun W1 hW => ?_
 have Bp : Box W1 (w.heap.size) [.int .i64 p.x, .int .i64 p.y] 30 := by rw [hW]; exact (Box.new rfl).old _
 have Bq : Box W1 (w.heap.size + 1) [.int .i64 q.x, .int .i64 q.y] 30 := by rw [hW]; exact Box.new (by simp)
 have hw : Below w.heap.size w W1 := by rw [hW]; go_grown
 clear hW
 refine (cl _ (Bm.ee hw) (Hm.ee hw)).mono ?_
 rintro e w2 ⟨rfl, hb⟩
 replace Bp := Bp.ee hb
 replace Bq := Bq.ee hb
 replace hw := upB hw hb
 clear hb
 have Fp := Bp.f
 have Fq := Bq.f
 go_wp2_with fail
 clear Fp Fq
 refine zA1 fun W3 hW => ?_
 obtain ⟨bks, hbs⟩ : ∃ b, w2.heap.size = b := ⟨_, rfl⟩
 rw [hbs]
 have lps := Bp.lt
 rw [hbs] at lps
 have lqs := Bq.lt
 rw [hbs] at lqs
 have fs := hw.size
 rw [hbs] at fs
 have Bs : Box W3 bks [.int .i64 S.A.x, .int .i64 S.A.y, .int .i64 S.B.x, .int .i64 S.B.y, .int .i64 S.C.x, .int .i64 S.C.y] 38 := by rw [hW]; exact Box.new hbs.symm
 replace Bp : Box W3 (w.heap.size) [.int .i64 p.x, .int .i64 p.y] 30 := by rw [hW]; exact Bp.old _
 replace Bq : Box W3 (w.heap.size + 1) [.int .i64 q.x, .int .i64 q.y] 30 := by rw [hW]; exact Bq.old _
 replace hw : Below w.heap.size w W3 := by have hl := hw.size; rw [hW]; go_grown
 clear hW hbs
 refine (cr _ (Bm.ee hw) (Hm.ee hw)).mono ?_
 rintro e w4 ⟨rfl, hb⟩
 replace Bp := Bp.ee hb
 replace Bq := Bq.ee hb
 replace Bs := Bs.ee hb
 replace hw := upB hw hb
 clear hb
 have Fp := Bp.f
 have Fq := Bq.f
 have Fs := Bs.f
 go_wp2
 go_ret
 exact ⟨rfl, by have hl := hw.size; go_grown⟩
theorem flip_ok (mb b : Nat) (E : Es) (p q : Pt) (hk : okW (p, q)) (S R U V : Tri3) (C D : Pt) (h0 : getE E (p, q) = some S) (h1 : getE E (q, p) = some R) (hC : apx S p q = C) (hD : apx R p q = D) (hm : meetS p q C D = 1) (hU : mk C p D = U) (hV : mk D q C = V) (hS : okT S) (hR : okT R) (hu : okT U) (hv : okT V) (ht : (takeRun E [S, R]).1 = 2) (hp : (putRun (takeRun E [S, R]).2 [U, V]).1 = 2) (w : World) (Bm : Box w mb [.map (some b)] 89) (Hm : HoldsMap eW eT okW w b E) :
    Calls Tryz.prog 39 #[.pointer (some ⟨mb, 0, none⟩), .agg #[.int .i64 p.x, .int .i64 p.y], .agg #[.int .i64 q.x, .int .i64 q.y]] w fun e w' => e = .returned (.int .i64 0) ∧ w.grownBy w' (some b) ∧ HoldsMap eW eT okW w' b (putRun (takeRun E [S, R]).2 [U, V]).2 := by
 have cl := zG8 mb b E p q S h0 hk
 have cr := zG8 mb b E q p R h1 ⟨hk.2, hk.1⟩
 clear h0 h1
 have ca := zE8 S p q
 have cb := zE8 R p q
 have cm := zHg p q C D
 have cu := zEn C p D
 have cv := zEn D q C
 rw [hU] at cu
 rw [hV] at cv
 rw [hC] at ca
 rw [hD] at cb
 rw [hm] at cm
 have cp := fun a1 a2 cap1 cap2 w B H R1 R2 => zGt mb b E a1 a2 cap1 cap2 2 2 [S, R] [U, V] (Lib.hid rfl) (by decide) (by simpa using ⟨hS, hR⟩) (Lib.hid rfl) (by decide) (by simpa using ⟨hu, hv⟩) ht hp w B H R1 R2
 clear hU hV hC hD hm hS hR hu hv ht hp
 go_enter Tryz.func39, Tryz.ntmps39
 go_wp2_with fail
 refine zA1 fun W1 hW => ?_
 have Bp : Box W1 (w.heap.size) [.int .i64 p.x, .int .i64 p.y] 30 := by rw [hW]; exact (Box.new rfl).old _
 have Bq : Box W1 (w.heap.size + 1) [.int .i64 q.x, .int .i64 q.y] 30 := by rw [hW]; exact Box.new (by simp)
 have hw : Below w.heap.size w W1 := by rw [hW]; go_grown
 clear hW
 refine (cl _ (Bm.ee hw) (Hm.ee hw)).mono ?_
 rintro e w2 ⟨rfl, hb⟩
 replace Bp := Bp.ee hb
 replace Bq := Bq.ee hb
 replace hw := upB hw hb
 clear hb
 have Fp := Bp.f
 have Fq := Bq.f
 go_wp2_with fail
 clear Fp Fq
 refine zA1 fun W3 hW => ?_
 obtain ⟨bks, hbs⟩ : ∃ b, w2.heap.size = b := ⟨_, rfl⟩
 rw [hbs]
 have lps := Bp.lt
 rw [hbs] at lps
 have lqs := Bq.lt
 rw [hbs] at lqs
 have fs := hw.size
 rw [hbs] at fs
 have Bs : Box W3 bks [.int .i64 S.A.x, .int .i64 S.A.y, .int .i64 S.B.x, .int .i64 S.B.y, .int .i64 S.C.x, .int .i64 S.C.y] 38 := by rw [hW]; exact Box.new hbs.symm
 replace Bp : Box W3 (w.heap.size) [.int .i64 p.x, .int .i64 p.y] 30 := by rw [hW]; exact Bp.old _
 replace Bq : Box W3 (w.heap.size + 1) [.int .i64 q.x, .int .i64 q.y] 30 := by rw [hW]; exact Bq.old _
 replace hw : Below w.heap.size w W3 := by have hl := hw.size; rw [hW]; go_grown
 clear hW hbs
 refine (cr _ (Bm.ee hw) (Hm.ee hw)).mono ?_
 rintro e w4 ⟨rfl, hb⟩
 replace Bp := Bp.ee hb
 replace Bq := Bq.ee hb
 replace Bs := Bs.ee hb
 replace hw := upB hw hb
 clear hb
 have Fp := Bp.f
 have Fq := Bq.f
 have Fs := Bs.f
 go_wp2_with fail
 clear Fp Fq Fs
 refine zA2 fun W5 hW => ?_
 obtain ⟨bkr, hbr⟩ : ∃ b, w4.heap.size = b := ⟨_, rfl⟩
 rw [hbr]
 have lpr := Bp.lt
 rw [hbr] at lpr
 have lqr := Bq.lt
 rw [hbr] at lqr
 have lsr := Bs.lt
 rw [hbr] at lsr
 have fr := hw.size
 rw [hbr] at fr
 have Br : Box W5 bkr [.int .i64 R.A.x, .int .i64 R.A.y, .int .i64 R.B.x, .int .i64 R.B.y, .int .i64 R.C.x, .int .i64 R.C.y] 38 := by rw [hW]; exact Box.new hbr.symm
 replace Bp : Box W5 (w.heap.size) [.int .i64 p.x, .int .i64 p.y] 30 := by rw [hW]; exact Bp.old _
 replace Bq : Box W5 (w.heap.size + 1) [.int .i64 q.x, .int .i64 q.y] 30 := by rw [hW]; exact Bq.old _
 replace Bs : Box W5 (bks) [.int .i64 S.A.x, .int .i64 S.A.y, .int .i64 S.B.x, .int .i64 S.B.y, .int .i64 S.C.x, .int .i64 S.C.y] 38 := by rw [hW]; exact Bs.old _
 replace hw : Below w.heap.size w W5 := by have hl := hw.size; rw [hW]; go_grown
 clear hW hbr
 have gp := Bp.cells
 have gq := Bq.cells
 have gs := Bs.cells
 have gr := Br.cells
 refine zBb 10 [⟨8, 10, 30, [.int .i64 0, .int .i64 0]⟩, ⟨9, 11, 30, [.int .i64 0, .int .i64 0]⟩] ?_ (by kernel_rfl) (by decide) (by decide) (by kernel_rfl) (by decide) (C := fun w' => ∃ p : Regrown, w' = grow (redrawn W5 p.d) p.os) rgB ?_
 ·simp only [List.forall_mem_cons]
  refine ⟨⟨_, rfl, rfl, rfl, rfl, fun ρ W => by simp [execOp, go_sem]⟩, ⟨_, rfl, rfl, rfl, rfl, fun ρ W => by simp [execOp, go_sem]⟩, fun _ h => (by cases h)⟩
 simp only [List.take_succ_cons, List.take_zero, List.map_cons, List.map_nil, dropIdx, List.contains_cons, List.contains_nil, Nat.reduceBEq, Nat.reduceAdd, Bool.or_false, Bool.or_true, Bool.or_self, Bool.false_eq_true, if_true, if_false]
 repeat (first | (refine zA0 (Eq.refl false) ?_; simp only [Act.put, sT2, sT1, sT0]) | (refine rWalk_step (fun K hK => ?_); go_simp; first | (refine hK _ ?_; clear hK K) | (apply Exists.intro; refine ⟨fun _ => ?_, hK _ ?_⟩; (first | with_reducible exact toExt ca _ | with_reducible exact toExt cb _); clear hK K)))
 refine rWalk_nil ?_
 intro w6 β hL
 simp only [putD, List.drop_succ_cons, List.drop_zero]
 have qc := hL.box ⟨8, 10, 30, [.int .i64 0, .int .i64 0]⟩ (by simp) (by simp)
 simp only at qc
 have qd := hL.box ⟨9, 11, 30, [.int .i64 0, .int .i64 0]⟩ (by simp) (by simp)
 simp only at qd
 have ncd := hL.apart 10 (by simp) 11 (by simp) (by decide)
 have ndc := hL.apart 11 (by simp) 10 (by simp) (by decide)
 have hb := hL.below
 have lp := Bp.lt
 have lq := Bq.lt
 have ls := Bs.lt
 have lr := Br.lt
 clear gp gq gs gr
 replace Bp := Bp.ee hb
 replace Bq := Bq.ee hb
 replace Bs := Bs.ee hb
 replace Br := Br.ee hb
 have hw0 := hw.size
 replace hw := upB hw hb
 clear hb hL
 generalize β 10 = bkc at *
 generalize β 11 = bkd at *
 clear β
 obtain ⟨fc, Bc⟩ := qc
 obtain ⟨fd, Bd⟩ := qd
 simp only [Act.put]
 have Fc := Bc.f
 have Fd := Bd.f
 have Fp := Bp.f
 have Fq := Bq.f
 have Fs := Bs.f
 have Fr := Br.f
 have epbkc : (w.heap.size = bkc) = False := by simp; omega
 have epbkc' : (bkc = w.heap.size) = False := by simp; omega
 have epbkd : (w.heap.size = bkd) = False := by simp; omega
 have epbkd' : (bkd = w.heap.size) = False := by simp; omega
 have eqbkc : (w.heap.size + 1 = bkc) = False := by simp; omega
 have eqbkc' : (bkc = w.heap.size + 1) = False := by simp; omega
 have eqbkd : (w.heap.size + 1 = bkd) = False := by simp; omega
 have eqbkd' : (bkd = w.heap.size + 1) = False := by simp; omega
 have esbkc : (bks = bkc) = False := by simp; omega
 have esbkc' : (bkc = bks) = False := by simp; omega
 have esbkd : (bks = bkd) = False := by simp; omega
 have esbkd' : (bkd = bks) = False := by simp; omega
 have erbkc : (bkr = bkc) = False := by simp; omega
 have erbkc' : (bkc = bkr) = False := by simp; omega
 have erbkd : (bkr = bkd) = False := by simp; omega
 have erbkd' : (bkd = bkr) = False := by simp; omega
 have ebkcbkd : (bkc = bkd) = False := by simp; omega
 have ebkdbkc : (bkd = bkc) = False := by simp; omega
 go_wp2_with fail
 refine zA1 fun W7 hW => ?_
 have Cp : Box W7 (w.heap.size) [.int .i64 p.x, .int .i64 p.y] 30 := by rw [hW]; exact ((((Bp.sn bkc 0 (.int .i64 C.x) (by first | assumption | omega)).sn bkc 1 (.int .i64 C.y) (by first | assumption | omega)).sn bkd 0 (.int .i64 D.x) (by first | assumption | omega)).sn bkd 1 (.int .i64 D.y) (by first | assumption | omega))
 have Cq : Box W7 (w.heap.size + 1) [.int .i64 q.x, .int .i64 q.y] 30 := by rw [hW]; exact ((((Bq.sn bkc 0 (.int .i64 C.x) (by first | assumption | omega)).sn bkc 1 (.int .i64 C.y) (by first | assumption | omega)).sn bkd 0 (.int .i64 D.x) (by first | assumption | omega)).sn bkd 1 (.int .i64 D.y) (by first | assumption | omega))
 have Cs : Box W7 (bks) [.int .i64 S.A.x, .int .i64 S.A.y, .int .i64 S.B.x, .int .i64 S.B.y, .int .i64 S.C.x, .int .i64 S.C.y] 38 := by rw [hW]; exact ((((Bs.sn bkc 0 (.int .i64 C.x) (by first | assumption | omega)).sn bkc 1 (.int .i64 C.y) (by first | assumption | omega)).sn bkd 0 (.int .i64 D.x) (by first | assumption | omega)).sn bkd 1 (.int .i64 D.y) (by first | assumption | omega))
 have Cr : Box W7 (bkr) [.int .i64 R.A.x, .int .i64 R.A.y, .int .i64 R.B.x, .int .i64 R.B.y, .int .i64 R.C.x, .int .i64 R.C.y] 38 := by rw [hW]; exact ((((Br.sn bkc 0 (.int .i64 C.x) (by first | assumption | omega)).sn bkc 1 (.int .i64 C.y) (by first | assumption | omega)).sn bkd 0 (.int .i64 D.x) (by first | assumption | omega)).sn bkd 1 (.int .i64 D.y) (by first | assumption | omega))
 have Cc : Box W7 (bkc) [.int .i64 C.x, .int .i64 C.y] 30 := by rw [hW]; exact ((((Bc.set 0 (.int .i64 C.x)).set 1 (.int .i64 C.y)).sn bkd 0 (.int .i64 D.x) (by first | assumption | omega)).sn bkd 1 (.int .i64 D.y) (by first | assumption | omega))
 have Cd : Box W7 (bkd) [.int .i64 D.x, .int .i64 D.y] 30 := by rw [hW]; exact ((((Bd.sn bkc 0 (.int .i64 C.x) (by first | assumption | omega)).sn bkc 1 (.int .i64 C.y) (by first | assumption | omega)).set 0 (.int .i64 D.x)).set 1 (.int .i64 D.y))
 replace hw : Below w.heap.size w W7 := by have hl := hw.size; rw [hW]; go_grown
 clear Fc Fd
 clear Fp Fq Fs Fr epbkc epbkc' epbkd epbkd' eqbkc eqbkc' eqbkd eqbkd' esbkc esbkc' esbkd esbkd' erbkc erbkc' erbkd erbkd' ebkcbkd ebkdbkc
 clear hW Bp Bq Bs Br Bc Bd
 have Bp := Cp
 have Bq := Cq
 have Bs := Cs
 have Br := Cr
 have Bc := Cc
 have Bd := Cd
 clear Cp Cq Cs Cr Cc Cd
 refine (cm _).mono ?_
 rintro e w8 ⟨rfl, hb⟩
 replace Bp := Bp.ee hb
 replace Bq := Bq.ee hb
 replace Bs := Bs.ee hb
 replace Br := Br.ee hb
 replace Bc := Bc.ee hb
 replace Bd := Bd.ee hb
 replace hw := upB hw hb
 clear hb
 have Fp := Bp.f
 have Fq := Bq.f
 have Fs := Bs.f
 have Fr := Br.f
 have Fc := Bc.f
 have Fd := Bd.f
 go_wp2_with fail
 refine (cu _).mono ?_
 rintro e w9 ⟨rfl, hb⟩
 clear Fp Fq Fs Fr Fc Fd
 replace Bp := Bp.ee hb
 replace Bq := Bq.ee hb
 replace Bs := Bs.ee hb
 replace Br := Br.ee hb
 replace Bc := Bc.ee hb
 replace Bd := Bd.ee hb
 replace hw := upB hw hb
 clear hb
 have Fp := Bp.f
 have Fq := Bq.f
 have Fs := Bs.f
 have Fr := Br.f
 have Fc := Bc.f
 have Fd := Bd.f
 go_wp2_with fail
 clear Fp Fq Fs Fr Fc Fd
 refine zA1 fun W10 hW => ?_
 obtain ⟨bku, hbu⟩ : ∃ b, w9.heap.size = b := ⟨_, rfl⟩
 rw [hbu]
 have lpu := Bp.lt
 rw [hbu] at lpu
 have lqu := Bq.lt
 rw [hbu] at lqu
 have lsu := Bs.lt
 rw [hbu] at lsu
 have lru := Br.lt
 rw [hbu] at lru
 have lcu := Bc.lt
 rw [hbu] at lcu
 have ldu := Bd.lt
 rw [hbu] at ldu
 have fu := hw.size
 rw [hbu] at fu
 have Bu : Box W10 bku [.int .i64 U.A.x, .int .i64 U.A.y, .int .i64 U.B.x, .int .i64 U.B.y, .int .i64 U.C.x, .int .i64 U.C.y] 38 := by rw [hW]; exact Box.new hbu.symm
 replace Bp : Box W10 (w.heap.size) [.int .i64 p.x, .int .i64 p.y] 30 := by rw [hW]; exact Bp.old _
 replace Bq : Box W10 (w.heap.size + 1) [.int .i64 q.x, .int .i64 q.y] 30 := by rw [hW]; exact Bq.old _
 replace Bs : Box W10 (bks) [.int .i64 S.A.x, .int .i64 S.A.y, .int .i64 S.B.x, .int .i64 S.B.y, .int .i64 S.C.x, .int .i64 S.C.y] 38 := by rw [hW]; exact Bs.old _
 replace Br : Box W10 (bkr) [.int .i64 R.A.x, .int .i64 R.A.y, .int .i64 R.B.x, .int .i64 R.B.y, .int .i64 R.C.x, .int .i64 R.C.y] 38 := by rw [hW]; exact Br.old _
 replace Bc : Box W10 (bkc) [.int .i64 C.x, .int .i64 C.y] 30 := by rw [hW]; exact Bc.old _
 replace Bd : Box W10 (bkd) [.int .i64 D.x, .int .i64 D.y] 30 := by rw [hW]; exact Bd.old _
 replace hw : Below w.heap.size w W10 := by have hl := hw.size; rw [hW]; go_grown
 clear hW hbu
 refine (cv _).mono ?_
 rintro e w11 ⟨rfl, hb⟩
 replace Bp := Bp.ee hb
 replace Bq := Bq.ee hb
 replace Bs := Bs.ee hb
 replace Br := Br.ee hb
 replace Bc := Bc.ee hb
 replace Bd := Bd.ee hb
 replace Bu := Bu.ee hb
 replace hw := upB hw hb
 clear hb
 have Fp := Bp.f
 have Fq := Bq.f
 have Fs := Bs.f
 have Fr := Br.f
 have Fc := Bc.f
 have Fd := Bd.f
 have Fu := Bu.f
 have es4 : (bks = w11.heap.size + 1) = False := by have := Bs.lt; simp; omega
 have es8 : (bks = w11.heap.size + 1 + 1) = False := by have := Bs.lt; simp; omega
 have er4 : (bkr = w11.heap.size + 1) = False := by have := Br.lt; simp; omega
 have er8 : (bkr = w11.heap.size + 1 + 1) = False := by have := Br.lt; simp; omega
 have eu4 : (bku = w11.heap.size + 1) = False := by have := Bu.lt; simp; omega
 have eu8 : (bku = w11.heap.size + 1 + 1) = False := by have := Bu.lt; simp; omega
 go_wp2_with fail
 have row : ∀ {w : World} {g : Nat} {X Y : Tri3}, Box w g (cT X ++ cT Y) 38 → RowAt cT 6 w (some ⟨g, 0, none⟩) [X, Y] := fun {w g X Y} h => zBp (S := [X, Y]) (by simpa using h)
 refine zA1 fun W12 hW => ?_
 have R1 : RowAt cT 6 W12 (some ⟨w11.heap.size + 1, 0, none⟩) [S, R] := row (by rw [hW]; exact (Box.new (by simp)).old _)
 have R2 : RowAt cT 6 W12 (some ⟨w11.heap.size + 1 + 1, 0, none⟩) [U, V] := row (by rw [hW]; exact Box.new (by simp))
 replace hw : Below w.heap.size w W12 := by have hl := hw.size; rw [hW]; go_grown
 clear hW row
 have hlt := Hm.lt
 refine (cp _ _ _ _ _ (Bm.ee hw) (Hm.ee hw) R1 R2).mono ?_
 rintro e w13 ⟨rfl, hg, H2⟩
 replace hg := zH9 hw hg
 clear Fp Fq Fs Fr Fc Fd Fu
 go_wp2
 go_ret
 exact ⟨rfl, hg, H2⟩
end Go.Proofs.YtmobnmjjmafibaaGreat
