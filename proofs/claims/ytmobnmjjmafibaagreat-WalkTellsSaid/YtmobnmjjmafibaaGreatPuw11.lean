/- Put together: CdtU, MesS, FenA, FenB, FenP, DocC, FenC. -/
import Derived.Test.YtmobnmjjmafibaaGreatRows
import Derived.Test.YtmobnmjjmafibaaGreatPuw10
import Derived.Test.YtmobnmjjmafibaaGreatPuw9
import Derived.Test.YtmobnmjjmafibaaGreatPuw4
import Derived.Test.YtmobnmjjmafibaaGreatPuw8
import Derived.Test.YtmobnmjjmafibaaGreatPuw0
import Derived.WalkKit
import Derived.WalkSpells
import Derived.WalkLawsBesides
import Derived.Laws.Externs
import Derived.Deep.QuietTactic
import Derived.BigQuiet
import Derived.Lib.Hide
import Derived.Handy
import Derived.LoopN
import Derived.RegionTactic
import Derived.Test.YtmobnmjjmafibaaGreatPuw2
import Derived.OwnWalk
import Derived.Maps.RangeWalk
import Derived.Test.YtmobnmjjmafibaaGreatPuw7
import Derived.Test.YtmobnmjjmafibaaGreatPuw3
import Derived.Test.YtmobnmjjmafibaaGreatPuw6
import Derived.Test.YtmobnmjjmafibaaGreatPuw5
set_option maxRecDepth 100000
set_option maxHeartbeats 8000000
namespace Go.Proofs.YtmobnmjjmafibaaGreat
open Go.RowKit
def flipD (E : Es) (p q : Pt) : Int × Es :=
 match getE E (p, q), getE E (q, p) with
 | some S, some R =>
  if 0 < ori p (apx R p q) (apx S p q) ∧ 0 < ori (apx R p q) q (apx S p q) ∧ getE E (apx R p q, apx S p q) = none ∧ getE E (apx S p q, apx R p q) = none
  then (0, flipE E S R (mk p (apx R p q) (apx S p q)) (mk (apx R p q) q (apx S p q))) else (2, E)
 | _, _ => (16, E)
theorem zBt {E : Es} {p q : Pt} (h : getE E (p, q) = none ∨ getE E (q, p) = none) : flipD E p q = (16, E) := by
 unfold flipD;rcases h with h | h
 ·rw [h]
 ·rw [h]; cases getE E (p, q) <;> rfl
theorem zDr {E : Es} {p q : Pt} {S R : Tri3} (h0 : getE E (p, q) = some S) (h1 : getE E (q, p) = some R) : flipD E p q = if 0 < ori p (apx R p q) (apx S p q) ∧ 0 < ori (apx R p q) q (apx S p q) ∧ getE E (apx R p q, apx S p q) = none ∧ getE E (apx S p q, apx R p q) = none then (0, flipE E S R (mk p (apx R p q) (apx S p q)) (mk (apx R p q) q (apx S p q))) else (2, E) := by
 unfold flipD; rw [h0, h1]
theorem zKi {T : Tri3} (h : valT T = true) : 0 < det T.A T.B T.C ∧ vld T.A = true ∧ vld T.B = true ∧ vld T.C = true := by
 obtain ⟨va, vb, vc, hD⟩ := zDk h;exact ⟨hD, va, vb, vc⟩
theorem zEw {E : Es} {L : List Tri3} (g : Good E L) {p q : Pt} {S R : Tri3} (h0 : getE E (p, q) = some S) (h1 : getE E (q, p) = some R) :
    (S ∈ L ∧ R ∈ L) ∧ (Cyc S p q (apx S p q) ∧ Cyc R q p (apx R p q)) ∧ (0 < det p q (apx S p q) ∧ 0 < det q p (apx R p q)) ∧ (vld p = true ∧ vld q = true ∧ vld (apx S p q) = true ∧ vld (apx R p q) = true) := by
 obtain ⟨mS, wS⟩ := g.get.1 h0;obtain ⟨mR, wR⟩ := g.get.1 h1;obtain ⟨c, cS⟩ := zCs wS;obtain ⟨d, cR⟩ := zCs wR;obtain ⟨pS, v1, v2, v3⟩ := zKi (g.val S mS);obtain ⟨pR, v4, v5, v6⟩ := zKi (g.val R mR);have p1 : 0 < det p q c := by rw [cS.det]; exact pS
 have p2 : 0 < det q p d := by rw [cR.det]; exact pR
 obtain ⟨n1, n2, n3⟩ := zAm p1;obtain ⟨m1, m2, m3⟩ := zAm p2;have e1 : apx S p q = c := (zFv cS n1 n2 n3).1;have e2 : apx R p q = d := (zFv cR m1 m2 m3).2;rw [e1, e2];have vv : ∀ {T : Tri3} {a b c : Pt}, Cyc T a b c → vld T.A = true → vld T.B = true → vld T.C = true → vld a = true ∧ vld b = true ∧ vld c = true := by
  intro T a b c h x y z;rcases h with ⟨rfl, rfl, rfl⟩ | ⟨rfl, rfl, rfl⟩ | ⟨rfl, rfl, rfl⟩
  ·exact ⟨x, y, z⟩
  ·exact ⟨y, z, x⟩
  ·exact ⟨z, x, y⟩
 obtain ⟨k1, k2, k3⟩ := vv cS v1 v2 v3;obtain ⟨_, _, k4⟩ := vv cR v4 v5 v6;exact ⟨⟨mS, mR⟩, ⟨cS, cR⟩, ⟨p1, p2⟩, k1, k2, k3, k4⟩
theorem zH1 {a b c : Pt} (va : vld a = true) (vb : vld b = true) (vc : vld c = true) : 0 < ori a b c ↔ 0 < det a b c := by
 rw [ori_v va vb vc];have := zAj (det a b c);omega
theorem zDp {E : Es} {L : List Tri3} (g : Good E L) {p q : Pt} {S R : Tri3} {C D : Pt} (h0 : getE E (p, q) = some S) (h1 : getE E (q, p) = some R) (hC : apx S p q = C) (hD : apx R p q = D) (o1 : 0 < ori p D C) (o2 : 0 < ori D q C) (he : getE E (D, C) = none) (hf : getE E (C, D) = none) :
    Flips E p q S R (mk p D C) (mk D q C) C D ∧ ∃ M, L.Perm (S :: R :: M) ∧ Good (flipE E S R (mk p D C) (mk D q C)) (mk p D C :: mk D q C :: M) := by
 obtain ⟨⟨mS, mR⟩, ⟨cS, cR⟩, ⟨p1, p2⟩, vp, vq, vc, vd⟩ := zEw g h0 h1;rw [hC] at cS p1 vc;rw [hD] at cR p2 vd;have d1 := (zH1 vp vd vc).1 o1;have d2 := (zH1 vd vq vc).1 o2;obtain ⟨n1, n2, n3⟩ := zAm p1;obtain ⟨m1, m2, m3⟩ := zAm p2;obtain ⟨x1, x2, x3⟩ := zAm d1;obtain ⟨y1, y2, y3⟩ := zAm d2;have hne : S ≠ R := by
  rintro rfl;have := cS.ways.mem_iff.1 cR.way;simp only [List.mem_cons, Prod.mk.injEq, List.not_mem_nil, or_false] at this;rcases this with ⟨k, _⟩ | ⟨_, k⟩ | ⟨k, _⟩
  ·exact n1 k.symm
  ·exact n3 k.symm
  ·exact n2 k
 obtain ⟨M, hM⟩ := zEe mS mR hne;have nd := (zBc hM).nodup_iff.1 g.once;rw [List.flatMap_cons, List.flatMap_cons, List.nodup_append] at nd;obtain ⟨_, nd2, nd1⟩ := nd;rw [List.nodup_append] at nd2;obtain ⟨_, _, nd2⟩ := nd2;have inM : ∀ w, w ∈ M.flatMap ways → w ∉ ways S ∧ w ∉ ways R ∧ w ∈ L.flatMap ways := fun w hw =>
  ⟨fun k => nd1 w k w (List.mem_append_right _ hw) rfl, fun k => nd2 w k w hw rfl, (zBc hM).mem_iff.2 (by rw [List.flatMap_cons, List.flatMap_cons]; simp [hw])⟩
 obtain ⟨cU, vU⟩ := zB2 vp vd vc d1;obtain ⟨cV, vV⟩ := zB2 vd vq vc d2;have a1 := (Good.take (E := E) (T := S) (M := R :: M) (g.order hM)).2;have a2 := (Good.take (E := takeT E S) (T := R) (M := M) a1).2;obtain ⟨f1, g1⟩ := Good.put (T := mk p D C) a2 vU (fun w hw k => by
  obtain ⟨k1, k2, k3⟩ := inM w k;have := cU.ways.mem_iff.1 hw;simp only [List.mem_cons, List.not_mem_nil, or_false] at this;rcases this with rfl | rfl | rfl
  ·exact k2 cR.turn.way
  ·exact g.get_none.1 he k3
  ·exact k1 cS.turn.turn.way)
 obtain ⟨f2, g2⟩ := Good.put (T := mk D q C) g1 vV (fun w hw k => by
  have h := cV.ways.mem_iff.1 hw;simp only [List.mem_cons, List.not_mem_nil, or_false] at h;rw [List.flatMap_cons, List.mem_append] at k;rcases k with k | k
  ·have k := cU.ways.mem_iff.1 k;simp only [List.mem_cons, List.not_mem_nil, or_false] at k;rcases h with rfl | rfl | rfl
   ·simp only [Prod.mk.injEq] at k;rcases k with ⟨k, _⟩ | ⟨_, k⟩ | ⟨k, _⟩
    ·exact x1 k.symm
    ·exact y2 k
    ·exact x2 k
   ·simp only [Prod.mk.injEq] at k;rcases k with ⟨_, k⟩ | ⟨k, _⟩ | ⟨_, k⟩
    ·exact x2 k.symm
    ·exact y1 k.symm
    ·exact x3 k
   ·simp only [Prod.mk.injEq] at k;rcases k with ⟨k, _⟩ | ⟨k, _⟩ | ⟨_, k⟩
    ·exact x3 k
    ·exact x2 k.symm
    ·exact x1 k.symm
  ·obtain ⟨k1, k2, k3⟩ := inM w k;rcases h with rfl | rfl | rfl
   ·exact k2 cR.turn.turn.way
   ·exact k1 cS.turn.way
   ·exact g.get_none.1 hf k3)
 refine ⟨⟨h0, h1, hC, hD, decide_eq_false (by omega), decide_eq_false (by omega), rfl, rfl, he, hf, ⟨zCa vc, zCa vd⟩, zBk (g.val _ mS), zBk (g.val _ mR), zBk vU, zBk vV, zC4 f1, zC4 f2⟩, M, hM, g2.order (List.Perm.swap _ _ _)⟩
theorem zH7 {E : Es} {L : List Tri3} (g : Good E L) {p q : Pt} {S R O : Tri3} {C D : Pt} (h0 : getE E (p, q) = some S) (h1 : getE E (q, p) = some R) (hC : apx S p q = C) (hD : apx R p q = D) (hdc : D ≠ C) (ho : (D, C) ∈ ways O ∨ (C, D) ∈ ways O) : teq O S = false ∧ teq O R = false := by
 obtain ⟨_, ⟨cS, cR⟩, ⟨p1, p2⟩, _⟩ := zEw g h0 h1;rw [hC] at cS p1;rw [hD] at cR p2;obtain ⟨n1, n2, n3⟩ := zAm p1;obtain ⟨m1, m2, m3⟩ := zAm p2;have tf : ∀ {X Y : Tri3}, X ≠ Y → teq X Y = false := fun {X Y} h => by
  rw [← Bool.not_eq_true]; intro k; exact h (zFa.1 k)
 constructor
 ·refine tf ?_;rintro rfl;rcases ho with ho | ho
  ·have := cS.ways.mem_iff.1 ho;simp only [List.mem_cons, Prod.mk.injEq, List.not_mem_nil, or_false] at this;rcases this with ⟨k, _⟩ | ⟨k, _⟩ | ⟨k, _⟩
   ·exact m2 k.symm
   ·exact m3 k
   ·exact hdc k
  ·have := cS.ways.mem_iff.1 ho;simp only [List.mem_cons, Prod.mk.injEq, List.not_mem_nil, or_false] at this;rcases this with ⟨k, _⟩ | ⟨k, _⟩ | ⟨_, k⟩
   ·exact n3 k
   ·exact n2 k.symm
   ·exact m2 k.symm
 ·refine tf ?_;rintro rfl;rcases ho with ho | ho
  ·have := cR.ways.mem_iff.1 ho;simp only [List.mem_cons, Prod.mk.injEq, List.not_mem_nil, or_false] at this;rcases this with ⟨k, _⟩ | ⟨k, _⟩ | ⟨_, k⟩
   ·exact m3 k
   ·exact m2 k.symm
   ·exact n2 k.symm
  ·have := cR.ways.mem_iff.1 ho;simp only [List.mem_cons, Prod.mk.injEq, List.not_mem_nil, or_false] at this;rcases this with ⟨k, _⟩ | ⟨k, _⟩ | ⟨k, _⟩
   ·exact n2 k.symm
   ·exact n3 k
   ·exact hdc k.symm
theorem rflip_any (mb b : Nat) (E : Es) (L : List Tri3) (g : Good E L) (p q : Pt) (hk : okW (p, q)) (w : World) (Bm : Box w mb [.map (some b)] 41) (Hm : HoldsMap eW eT okW w b E) :
    Calls Tryz.prog 44 #[.pointer (some ⟨mb, 0, none⟩), .agg #[.int .i64 p.x, .int .i64 p.y], .agg #[.int .i64 q.x, .int .i64 q.y]] w fun e w' => e = .returned (.int .i64 (flipD E p q).1) ∧ w.grownBy w' (some b) ∧ HoldsMap eW eT okW w' b (flipD E p q).2 := by
 have no : ∀ {r : Int} {e : Ending} {w' : World}, flipD E p q = (r, E) → e = .returned (.int .i64 r) ∧ Below w.heap.size w w' → e = .returned (.int .i64 (flipD E p q).1) ∧ w.grownBy w' (some b) ∧ HoldsMap eW eT okW w' b (flipD E p q).2 := fun h ⟨k1, k2⟩ => by
  rw [h]; exact ⟨k1, zA8 k2 _, Hm.ee k2⟩
 cases h0 : getE E (p, q) with
 | none => exact (rflip_n0 mb b E p q hk h0 w Bm Hm).mono fun e w' h => no (zBt (.inl h0)) h
 | some S =>
  cases h1 : getE E (q, p) with
  | none => exact (rflip_n1 mb b E p q hk S h0 h1 w Bm Hm).mono fun e w' h => no (zBt (.inr h1)) h
  | some R =>
   obtain ⟨_, _, _, vp, vq, vc, vd⟩ := zEw g h0 h1;have hs := zDr h0 h1;obtain ⟨C, hC⟩ : ∃ C, apx S p q = C := ⟨_, rfl⟩;obtain ⟨D, hD⟩ : ∃ D, apx R p q = D := ⟨_, rfl⟩;rw [hC] at hs vc;rw [hD] at hs vd;have hc : okW (C, D) := ⟨zCa vc, zCa vd⟩;by_cases o1 : 0 < ori p D C
   ·by_cases o2 : 0 < ori D q C
    ·have hdc : D ≠ C := fun e => by rw [e] at o1; have := (zH1 vp vc vc).1 o1; have z : det p C C = 0 := by unfold det; grind
                                     omega
     cases he : getE E (D, C) with
     | some O =>
      obtain ⟨t1, t2⟩ := zH7 g h0 h1 hC hD hdc (.inl (g.get.1 he).2);refine (rflip_c1 mb b E p q hk S R C D h0 h1 hC hD (decide_eq_false (by omega)) (decide_eq_false (by omega)) hc O he t1 t2 w Bm Hm).mono fun e w' h => no ?_ h;rw [hs, if_neg (by rw [he]; simp)]
     | none =>
      cases hf : getE E (C, D) with
      | some O =>
       obtain ⟨t1, t2⟩ := zH7 g h0 h1 hC hD hdc (.inr (g.get.1 hf).2);refine (rflip_c2 mb b E p q hk S R C D h0 h1 hC hD (decide_eq_false (by omega)) (decide_eq_false (by omega)) hc O he hf t1 t2 w Bm Hm).mono fun e w' h => no ?_ h;rw [hs, if_neg (by rw [hf]; simp)]
      | none =>
       obtain ⟨fl, _⟩ := zDp g h0 h1 hC hD o1 o2 he hf;rw [hs, if_pos ⟨o1, o2, he, hf⟩];exact zJf mb b E p q hk S R _ _ C D fl.h0 fl.h1 fl.hC fl.hD fl.o1 fl.o2 fl.hU fl.hV fl.he fl.hf fl.hc fl.hS fl.hR fl.hu fl.hv fl.f1 fl.f2 w Bm Hm
    ·refine (rflip_o2 mb b E p q hk S R C D h0 h1 hC hD (decide_eq_false (by omega)) (decide_eq_true (by omega)) w Bm Hm).mono fun e w' h => no ?_ h;rw [hs, if_neg (fun k => o2 k.2.1)]
   ·refine (rflip_o1 mb b E p q hk S R C D h0 h1 hC hD (decide_eq_true (by omega)) w Bm Hm).mono fun e w' h => no ?_ h;rw [hs, if_neg (fun k => o1 k.1)]
theorem good_flipD {E : Es} {L : List Tri3} (g : Good E L) (p q : Pt) : ∃ L', Good (flipD E p q).2 L' := by
 cases h0 : getE E (p, q) with
 | none => rw [zBt (.inl h0)]; exact ⟨L, g⟩
 | some S =>
  cases h1 : getE E (q, p) with
  | none => rw [zBt (.inr h1)]; exact ⟨L, g⟩
  | some R =>
   rw [zDr h0 h1];split
   ·rename_i k
    obtain ⟨_, M, _, g'⟩ := zDp g h0 h1 rfl rfl k.1 k.2.1 k.2.2.1 k.2.2.2;exact ⟨_, g'⟩
   ·exact ⟨L, g⟩
end Go.Proofs.YtmobnmjjmafibaaGreat
namespace Go.Proofs.YtmobnmjjmafibaaGreat
open Go.RowKit Go.Sort
attribute [local go_sem] rOper rAt rUpon cell_set sg_i64 sg_u64 alloc_cell alloc_frozen
attribute [local go_sem 10000] pt_eql pt_neq tri_eql
attribute [local irreducible] rWalk
attribute [local go_sem 10000] tri_neq
theorem zCz : ∀ (M N : List Pt), M.Nodup → (∀ p ∈ M, p ∈ N) → M.length ≤ N.length
 | [], _, _, _ => Nat.zero_le _
 | p :: M, N, hn, h => by
  have hp := h p (by simp);have ih := zCz M (N.erase p) (List.nodup_cons.1 hn).2 (fun q hq => (List.mem_erase_of_ne (fun e => (List.nodup_cons.1 hn).1 (by rw [← e]; exact hq))).2 (h q (by simp [hq])));rw [List.length_erase_of_mem hp] at ih;have := List.length_pos_of_mem hp;simp only [List.length_cons]; omega
theorem alloc_cellA (w : World) (o : Obj) (A : Addr) (h : (A.block = w.heap.size) = False) : (w.alloc o).cell? A = w.cell? A := by
 have h' : A.block ≠ w.heap.size := fun e => h.mp e;unfold World.alloc World.cell?;simp only [Array.getElem?_push, if_neg h']
attribute [local go_sem] alloc_cellA
end Go.Proofs.YtmobnmjjmafibaaGreat
namespace Go.Proofs.YtmobnmjjmafibaaGreat
open Go.RowKit Go.Sort
attribute [local go_sem] rOper rAt rUpon cell_set sg_i64 sg_u64 alloc_cell alloc_frozen
attribute [local go_sem 10000] pt_eql pt_neq tri_eql
attribute [local irreducible] rWalk
def onE (E : Es) (p q : Pt) : List Pt := (froms E).filter fun x => onR x p q
theorem zH2 (E F : Es) (p q : Pt) : onE (E ++ F) p q = onE E p q ++ onE F p q := by unfold onE froms; rw [List.map_append, List.filter_append]
theorem onE_yes {u x p q : Pt} {T : Tri3} (h : onR u p q = true) : onE [((u, x), T)] p q = [u] := by simp [onE, froms, h]
theorem onE_no {u x p q : Pt} {T : Tri3} (h : onR u p q = false) : onE [((u, x), T)] p q = [] := by simp [onE, froms, h]
theorem zJj (E : Es) (p q : Pt) : (onE E p q).length ≤ E.length := by unfold onE froms; exact Nat.le_trans (List.length_filter_le _ _) (by simp)
theorem onE_perm {E F : Es} (h : E.Perm F) (p q : Pt) : (onE E p q).Perm (onE F p q) := (h.map _).filter _
def PartsL (E : Es) (p q : Pt) (M : List Pt) : Prop := (∀ x, x ∈ M ↔ x ∈ onE E p q) ∧ ((Rising cmpP M ∧ M.head? = some p) ∨ (Rising cmpP M.reverse ∧ M.reverse.head? ≠ some p))
def PartsPost (E : Es) (p q : Pt) (w : World) (e : Ending) (w' : World) : Prop :=
 ∃ M a cap, e = .returned (.tuple #[.slice a M.length cap, .int .i64 0]) ∧ RowAt cP 2 w' a M ∧ PartsL E p q M ∧ Below w.heap.size w w'
theorem rparts_b0 (mb b : Nat) (E : Es) (p q : Pt) (h0 : peqI p.x p.y q.x q.y = true) (w : World) (Bm : Box w mb [.map (some b)] 41) (Hm : HoldsMap eW eT okW w b E) :
    Calls Tryz.prog 132 #[.pointer (some ⟨mb, 0, none⟩), .agg #[.int .i64 p.x, .int .i64 p.y], .agg #[.int .i64 q.x, .int .i64 q.y]] w fun e w' => e = .returned (.tuple #[.slice none 0 0, .int .i64 2]) ∧ Below w.heap.size w w' := by
 go_enter Tryz.func132, Tryz.ntmps132
 go_wp2;refine bodyPost_ret (v := .tuple #[.slice none 0 0, .int .i64 2]) (by simp [results, Tryz.results132, go_sem]) rfl ⟨rfl, by go_grown⟩
theorem rparts_b1 (mb b : Nat) (E : Es) (p q : Pt) (h0 : peqI p.x p.y q.x q.y = false) (h1 : vld p = false) (w : World) (Bm : Box w mb [.map (some b)] 41) (Hm : HoldsMap eW eT okW w b E) :
    Calls Tryz.prog 132 #[.pointer (some ⟨mb, 0, none⟩), .agg #[.int .i64 p.x, .int .i64 p.y], .agg #[.int .i64 q.x, .int .i64 q.y]] w fun e w' => e = .returned (.tuple #[.slice none 0 0, .int .i64 2]) ∧ Below w.heap.size w w' := by
 have kp := zA2 p;rw [h1] at kp
 go_enter Tryz.func132, Tryz.ntmps132
 go_wp2_with fail;refine zA1 fun W1 hW => ?_;obtain ⟨Bp, Bq, hw⟩ := N2 hW;clear hW;refine (kp _).mono ?_;rintro e w2 ⟨rfl, hb⟩;obtain ⟨Bp, Bq, hw, F_pq⟩ := X2 Bp Bq hw hb;clear hb;go_wp2;refine bodyPost_ret (v := .tuple #[.slice none 0 0, .int .i64 2]) (by simp [results, Tryz.results132, go_sem]) rfl ⟨rfl, by have hl := hw.size; go_grown⟩
theorem rparts_b2 (mb b : Nat) (E : Es) (p q : Pt) (h0 : peqI p.x p.y q.x q.y = false) (h1 : vld p = true) (h2 : vld q = false) (w : World) (Bm : Box w mb [.map (some b)] 41) (Hm : HoldsMap eW eT okW w b E) :
    Calls Tryz.prog 132 #[.pointer (some ⟨mb, 0, none⟩), .agg #[.int .i64 p.x, .int .i64 p.y], .agg #[.int .i64 q.x, .int .i64 q.y]] w fun e w' => e = .returned (.tuple #[.slice none 0 0, .int .i64 2]) ∧ Below w.heap.size w w' := by
 have kp := zA2 p;rw [h1] at kp;have kq := zA2 q;rw [h2] at kq
 go_enter Tryz.func132, Tryz.ntmps132
 go_wp2_with fail;refine zA1 fun W1 hW => ?_;obtain ⟨Bp, Bq, hw⟩ := N2 hW;clear hW;refine (kp _).mono ?_;rintro e w2 ⟨rfl, hb⟩;obtain ⟨Bp, Bq, hw, F_pq⟩ := X2 Bp Bq hw hb;clear hb;go_wp2_with fail;refine (kq _).mono ?_;rintro e w3 ⟨rfl, hb⟩;clear F_pq;obtain ⟨Bp, Bq, hw, F_pq⟩ := X2 Bp Bq hw hb;clear hb;go_wp2;refine bodyPost_ret (v := .tuple #[.slice none 0 0, .int .i64 2]) (by simp [results, Tryz.results132, go_sem]) rfl ⟨rfl, by have hl := hw.size; go_grown⟩
theorem rparts_n1 (mb b : Nat) (E : Es) (p q : Pt) (hE : E.length ≤ 500000) (h0 : peqI p.x p.y q.x q.y = false) (h1 : vld p = true) (h2 : vld q = true) (s1 : starE p E = []) (w : World) (Bm : Box w mb [.map (some b)] 41) (Hm : HoldsMap eW eT okW w b E) :
    Calls Tryz.prog 132 #[.pointer (some ⟨mb, 0, none⟩), .agg #[.int .i64 p.x, .int .i64 p.y], .agg #[.int .i64 q.x, .int .i64 q.y]] w fun e w' => e = .returned (.tuple #[.slice none 0 0, .int .i64 16]) ∧ Below w.heap.size w w' := by
 have kp := zA2 p;rw [h1] at kp;have kq := zA2 q;rw [h2] at kq;have cS := fun w0 B1 H1 => zBn mb b E p (by omega) w0 B1 H1;have cT := fun w0 B1 H1 => zBn mb b E q (by omega) w0 B1 H1;obtain ⟨n, hn⟩ : ∃ n, (srt cmpT (starE p E)).length = n := ⟨_, rfl⟩;obtain ⟨m, hm⟩ : ∃ m, (srt cmpT (starE q E)).length = m := ⟨_, rfl⟩;rw [hn] at cS;rw [hm] at cT;have hn0 : n = 0 := by rw [← hn, (zAg _).length_eq, s1]; rfl
 subst hn0
 go_enter Tryz.func132, Tryz.ntmps132
 go_wp2_with fail;refine zA1 fun W1 hW => ?_;obtain ⟨Bp, Bq, hw⟩ := N2 hW;clear hW;refine (kp _).mono ?_;rintro e w2 ⟨rfl, hb⟩;obtain ⟨Bp, Bq, hw, F_pq⟩ := X2 Bp Bq hw hb;clear hb;go_wp2_with fail;refine (kq _).mono ?_;rintro e w3 ⟨rfl, hb⟩;clear F_pq;obtain ⟨Bp, Bq, hw, F_pq⟩ := X2 Bp Bq hw hb;clear hb;go_wp2_with fail;refine (cS _ (Bm.ee hw) (Hm.ee hw)).mono ?_;rintro e w4 ⟨as1, cs1, rfl, hr1, hb⟩;clear F_pq;obtain ⟨Bp, Bq, hw, -⟩ := X2 Bp Bq hw hb;clear hb hr1;have F_pq := J2 Bp.f Bq.f;go_wp2;refine bodyPost_ret (v := .tuple #[.slice none 0 0, .int .i64 16]) (by simp [results, Tryz.results132, go_sem]) rfl ⟨rfl, by have hl := hw.size; go_grown⟩
theorem rparts_n2 (mb b : Nat) (E : Es) (p q : Pt) (hE : E.length ≤ 500000) (h0 : peqI p.x p.y q.x q.y = false) (h1 : vld p = true) (h2 : vld q = true) (s1 : starE p E ≠ []) (s2 : starE q E = []) (w : World) (Bm : Box w mb [.map (some b)] 41) (Hm : HoldsMap eW eT okW w b E) :
    Calls Tryz.prog 132 #[.pointer (some ⟨mb, 0, none⟩), .agg #[.int .i64 p.x, .int .i64 p.y], .agg #[.int .i64 q.x, .int .i64 q.y]] w fun e w' => e = .returned (.tuple #[.slice none 0 0, .int .i64 16]) ∧ Below w.heap.size w w' := by
 have kp := zA2 p;rw [h1] at kp;have kq := zA2 q;rw [h2] at kq;have cS := fun w0 B1 H1 => zBn mb b E p (by omega) w0 B1 H1;have cT := fun w0 B1 H1 => zBn mb b E q (by omega) w0 B1 H1;obtain ⟨n, hn⟩ : ∃ n, (srt cmpT (starE p E)).length = n := ⟨_, rfl⟩;obtain ⟨m, hm⟩ : ∃ m, (srt cmpT (starE q E)).length = m := ⟨_, rfl⟩;rw [hn] at cS;rw [hm] at cT;have hn0 : ((n : Int) == 0) = false := by
  have : n ≠ 0 := fun e => s1 (List.length_eq_zero_iff.1 (by rw [← (zAg (c := cmpT) (starE p E)).length_eq, hn, e]));simp; omega
 have hm0 : m = 0 := by rw [← hm, (zAg _).length_eq, s2]; rfl
 subst hm0
 go_enter Tryz.func132, Tryz.ntmps132
 go_wp2_with fail;refine zA1 fun W1 hW => ?_;obtain ⟨Bp, Bq, hw⟩ := N2 hW;clear hW;refine (kp _).mono ?_;rintro e w2 ⟨rfl, hb⟩;obtain ⟨Bp, Bq, hw, F_pq⟩ := X2 Bp Bq hw hb;clear hb;go_wp2_with fail;refine (kq _).mono ?_;rintro e w3 ⟨rfl, hb⟩;clear F_pq;obtain ⟨Bp, Bq, hw, F_pq⟩ := X2 Bp Bq hw hb;clear hb;go_wp2_with fail;refine (cS _ (Bm.ee hw) (Hm.ee hw)).mono ?_;rintro e w4 ⟨as1, cs1, rfl, hr1, hb⟩;clear F_pq;obtain ⟨Bp, Bq, hw, -⟩ := X2 Bp Bq hw hb;clear hb hr1;have F_pq := J2 Bp.f Bq.f;go_wp2_with fail;refine (cT _ (Bm.ee hw) (Hm.ee hw)).mono ?_;rintro e w5 ⟨as2, cs2, rfl, hr2, hb⟩;clear F_pq;obtain ⟨Bp, Bq, hw, -⟩ := X2 Bp Bq hw hb;clear hb hr2;have F_pq := J2 Bp.f Bq.f;go_wp2;refine bodyPost_ret (v := .tuple #[.slice none 0 0, .int .i64 16]) (by simp [results, Tryz.results132, go_sem]) rfl ⟨rfl, by have hl := hw.size; go_grown⟩
theorem rparts_ok (mb b : Nat) (E : Es) (p q : Pt) (hE : E.length ≤ 500000) (h0 : peqI p.x p.y q.x q.y = false) (h1 : vld p = true) (h2 : vld q = true) (s1 : starE p E ≠ []) (s2 : starE q E ≠ []) (w : World) (Bm : Box w mb [.map (some b)] 41) (Hm : HoldsMap eW eT okW w b E) :
    Calls Tryz.prog 132 #[.pointer (some ⟨mb, 0, none⟩), .agg #[.int .i64 p.x, .int .i64 p.y], .agg #[.int .i64 q.x, .int .i64 q.y]] w (PartsPost E p q w) := by
 have kp := zA2 p;rw [h1] at kp;have kq := zA2 q;rw [h2] at kq;have cS := fun w0 B1 H1 => zBn mb b E p (by omega) w0 B1 H1;have cT := fun w0 B1 H1 => zBn mb b E q (by omega) w0 B1 H1;obtain ⟨n, hn⟩ : ∃ n, (srt cmpT (starE p E)).length = n := ⟨_, rfl⟩;obtain ⟨m, hm⟩ : ∃ m, (srt cmpT (starE q E)).length = m := ⟨_, rfl⟩;rw [hn] at cS;rw [hm] at cT;have hn0 : ((n : Int) == 0) = false := by
  have : n ≠ 0 := fun e => s1 (List.length_eq_zero_iff.1 (by rw [← (zAg (c := cmpT) (starE p E)).length_eq, hn, e]));simp; omega
 have hm0 : ((m : Int) == 0) = false := by
  have : m ≠ 0 := fun e => s2 (List.length_eq_zero_iff.1 (by rw [← (zAg (c := cmpT) (starE q E)).length_eq, hm, e]));simp; omega
 go_enter Tryz.func132, Tryz.ntmps132
 go_wp2_with fail;refine zA1 fun W1 hW => ?_;obtain ⟨Bp, Bq, hw⟩ := N2 hW;clear hW;refine (kp _).mono ?_;rintro e w2 ⟨rfl, hb⟩;obtain ⟨Bp, Bq, hw, -⟩ := X2 Bp Bq hw hb;clear hb;have Fp := Bp.f;have Fq := Bq.f;go_wp2_with fail;refine (kq _).mono ?_;rintro e w3 ⟨rfl, hb⟩;clear Fp Fq;obtain ⟨Bp, Bq, hw, -⟩ := X2 Bp Bq hw hb;clear hb;have Fp := Bp.f;have Fq := Bq.f;go_wp2_with fail;refine (cS _ (Bm.ee hw) (Hm.ee hw)).mono ?_;rintro e w4 ⟨as1, cs1, rfl, hr1, hb⟩;clear Fp Fq;obtain ⟨Bp, Bq, hw, -⟩ := X2 Bp Bq hw hb;clear hb hr1;have Fp := Bp.f;have Fq := Bq.f;go_wp2_with fail;refine (cT _ (Bm.ee hw) (Hm.ee hw)).mono ?_;rintro e w5 ⟨as2, cs2, rfl, hr2, hb⟩;clear Fp Fq;obtain ⟨Bp, Bq, hw, -⟩ := X2 Bp Bq hw hb;clear hb hr2;have B1 := Bm.ee hw;have H1 := Hm.ee hw;have Fm := B1.f;have Fp := Bp.f;have Fq := Bq.f;have HPE := Lib.hid (show p ∈ onE E p q by
  have : starE p E ≠ [] := s1;obtain ⟨T, hT⟩ := List.exists_mem_of_ne_nil _ this;unfold starE at hT;obtain ⟨e, he, _⟩ := List.mem_map.1 hT;obtain ⟨he, hp⟩ := List.mem_filter.1 he;have hp : e.1.1 = p := by simpa using hp
  unfold onE froms;refine List.mem_filter.2 ⟨List.mem_map.2 ⟨e, he, hp⟩, ?_⟩;unfold onR btw;have z : det p q p = 0 := by unfold det; grind
  have k1 : min p.x q.x ≤ p.x ∧ p.x ≤ max p.x q.x := by omega
  have k2 : min p.y q.y ≤ p.y ∧ p.y ≤ max p.y q.y := by omega
  rw [h1, h2, z, decide_eq_true k1, decide_eq_true k2]; rfl)
 clear s1 s2 hn hm h0 cS cT kp kq Bm Hm;go_wp2_with (at_range; refine zAx _ rfl _ rfl kvR rfl H1 ?_)
 intro w20 HR0 hw20 hs20;generalize hit : w5.heap.size = it at HR0 ⊢
 have hwz := hw.size;have hiz := Lib.hid (show w.heap.size + 2 ≤ it by have := Bq.lt; omega);have Bp0 : Box w20 w.heap.size [.int .i64 p.x, .int .i64 p.y] 30 := Bp.ext hw20 (by first | rfl | simp);have Bq0 : Box w20 (w.heap.size + 1) [.int .i64 q.x, .int .i64 q.y] 30 := Bq.ext hw20 (by first | rfl | simp);replace hw := upB hw hw20;clear Fp Fq Fm Bp Bq hw20 hs20 B1 H1 hit hwz hn0 hm0;go_wp2
 go_loopw [8] (fun v wr => ∃ D R : Es, Hid ((D ++ R).Perm E) ∧ wr.ownsRow (w.heap.size + 2) 30 2 v (onE D p q).length ((onE D p q).flatMap cP) ∧ Ranging eW eT okW wr b it E R ∧ Box wr w.heap.size [.int .i64 p.x, .int .i64 p.y] 30 ∧ Box wr (w.heap.size + 1) [.int .i64 q.x, .int .i64 q.y] 30 ∧ Below w.heap.size w wr) (fun _ wr => wr.rangeLeft b it)
 case atStart => exact ⟨[], E, Lib.hid (by simp), World.ownsRow_nil _ _ _ _, by simpa using HR0, Bp0, Bq0, hw⟩
 case round =>
  clear HR0 hw Bp0 Bq0;obtain ⟨D, R, hD, hown, HR, Bp, Bq, hw⟩ := hrel;go_wp2_with (at_next; refine zB5 _ rfl _ rfl rfl HR ?_ ?_)
  ·intro hR;subst hR;have hp0 : (onE D p q).Perm (onE E p q) := onE_perm (by simpa using hD.out) p q;have hle : (onE D p q).length ≤ 500000 := by have := hp0.length_eq; have := zJj E p q; omega
   have HPM := Lib.hid hp0;clear hp0;obtain ⟨a1, c1, rfl, hc1, hr1⟩ := zAp zHi hown;go_wp2_with fail;refine (rsortP_any _ _ _ _ (Lib.hid rfl) hle _ hr1).mono ?_;rintro e w2 ⟨M, aM, cM, rfl, hrM, hriM, hmM, hb⟩;have HRI := Lib.hid hriM;have HMM := Lib.hid (show ∀ x, x ∈ M ↔ x ∈ onE E p q from fun x => by rw [hmM x, HPM.out.mem_iff]);have hM0 : 0 < M.length := List.length_pos_of_mem ((HMM.out p).2 HPE.out);have hMl := Lib.hid (show M.length ≤ 500000 from Nat.le_trans (zCz M (onE E p q) (hriM.imp fun {x y} h e => by subst e; have := (zC9 (p := x) (q := x)).2 rfl; omega) (fun x hx => (HMM.out x).1 hx)) (by rw [← HPM.out.length_eq]; exact hle));have Bp2 := Bp.ee hb;have HZ2 := Lib.hid (show w.heap.size + 2 ≤ w2.heap.size by have := Bq.lt; have := hb.size; omega);have hw2 := (upB hw hb);clear hown HR Bp Bq hw hb hr1 hriM hmM hc1 HPM;obtain ⟨ad, A, ea, eA, hA⟩ := hrM.two hM0;have HH := Lib.hid (show M.head? = some M[0] from List.head?_eq_getElem? ▸ List.getElem?_eq_getElem hM0);generalize M[0] = x at *
   obtain ⟨n, hnM⟩ : ∃ n, M.length = n := ⟨_, rfl⟩;have HN := Lib.hid hnM;rw [hnM] at hM0 hMl;rw [hnM];clear hnM;have q0 : (0 : Int) < (n : Int) := by omega
   have gp := Bp2.cells;obtain ⟨s0, s1⟩ := hA.cells;have ea2 := Lib.hid ea;subst ea;go_wp2_with fail;refine wrt 4 (by kernel_rfl) (by kernel_rfl) ?_;simp only [tK1, tK0, dP1, dP0];repeat (first | (refine zA0 (Eq.refl false) ?_; simp only [Act.put, sT2, sT1, sT0]) | (refine rWalk_step (fun K hK => ?_); go_simp; refine hK _ ?_; clear hK K))
   refine rWalk_nil ?_;intro w3 hb3;clear gp s0 s1;have r3 := hrM.ee hb3;have hw3 := (upB hw2 hb3);have HZ3 := Lib.hid (show w.heap.size + 2 ≤ w3.heap.size by have := HZ2.out; have := hb3.size; omega);have HAD := Lib.hid (show ad.block < w3.heap.size by have hs := hb3.size; have h1 := hA.1; rw [← eA, zAk] at h1; omega);clear hA hrM Bp2 hw2 hb3 HZ2;cases hx : peqI x.x x.y p.x p.y with
   | true =>
    have HR := Lib.hid (show PartsL E p q M from ⟨HMM.out, .inl ⟨HRI.out, by rw [HH.out, zBi.1 hx]⟩⟩);go_wp2;refine bodyPost_ret (v := .tuple #[.slice (some ad) n cM, .int .i64 0]) (by simp [results, Tryz.results132, go_sem]) rfl ?_;exact ⟨M, some ad, cM, by rw [HN.out], r3, HR.out, hw3⟩
   | false =>
    have HR := Lib.hid (show PartsL E p q M.reverse from ⟨fun y => by rw [List.mem_reverse]; exact HMM.out y, .inr ⟨by rw [List.reverse_reverse]; exact HRI.out, by rw [List.reverse_reverse, HH.out]; intro e; rw [Option.some.inj e] at hx; rw [zBi.2 rfl] at hx; cases hx⟩⟩);have r4 : RowAt cP 2 w3 (some ad) M := r3;have e1 := Lib.hid (show wrap64 ((n : Int) - 1) = (n : Int) - 1 by rw [w64]; have := hMl.out; omega);clear HPE HRI HMM HH r3;go_wp2
    go_loopw [10, 11] (fun vo vi wr => ∃ (j : Nat) (z : Int), vi = .int .i64 z ∧ z = (j : Int) - 1 ∧ j ≤ n ∧ wr.ownsRow w3.heap.size 30 2 vo (M.drop j).reverse.length ((M.drop j).reverse.flatMap cP) ∧ RowAt cP 2 wr (some ad) M ∧ Hid (w3.heap.size ≤ wr.heap.size) ∧ Below w.heap.size w wr) (fun _ vi _ => (intOf vi + 1).toNat)
    case atStart => exact ⟨n, _, rfl, by first | rfl | exact e1.out, Nat.le_refl _, by rw [List.drop_of_length_le (by rw [HN.out]; omega)]; exact World.ownsRow_nil _ _ _ _, r4, Lib.hid (Nat.le_refl _), hw3⟩
    case round =>
     clear r4 hw3;obtain ⟨j, z, rfl, hz, hj, hown, r4, hz3, hw3⟩ := hrel;cases j with
     | zero =>
      have q2 : decide ((0 : Int) ≤ z) = false := by simp; omega
      clear hz hj;obtain ⟨a1, c1, rfl, hc1, hr1⟩ := zAp zHi hown;rw [List.drop_zero] at hr1;have HL0 := Lib.hid (show (M.drop 0).reverse.length = M.reverse.length from rfl);go_wp2;refine bodyPost_ret (v := .tuple #[.slice a1 (M.drop 0).reverse.length c1, .int .i64 0]) (by simp [results, Tryz.results132, go_sem]) rfl ?_;exact ⟨M.reverse, a1, c1, by rw [← HL0.out], hr1, HR.out, hw3⟩
     | succ j =>
      obtain rfl : z = (j : Int) := by omega
      have hjM : j < M.length := by rw [HN.out]; omega
      obtain ⟨ad2, A2, ea3, eA2, hA2⟩ := r4.two hjM;obtain rfl : ad = ad2 := Option.some.inj ea3;have HT := Lib.hid (show (M.drop j).reverse = (M.drop (j + 1)).reverse ++ [M[j]] by rw [List.drop_eq_getElem_cons hjM, List.reverse_cons]);have hle2 : (M.drop (j + 1)).reverse.length ≤ 1000000 := by rw [List.length_reverse, List.length_drop, HN.out]; have := hMl.out; omega
      generalize M[j] = y at *
      have q2 : decide ((0 : Int) ≤ (j : Int)) = true := by simp
      have q3 : (j : Int) < (n : Int) := by omega
      have q4 : (0 : Int) ≤ (j : Int) := by omega
      have e2 := Lib.hid (show wrap64 ((j : Int) - 1) = (j : Int) - 1 by rw [w64]; have := hMl.out; omega);have hjn := Lib.hid (show j ≤ n by omega);obtain ⟨z1, t0, t1⟩ := hA2.f;have hbw := hz3.out;have hsz := Lib.hid (show w3.heap.size ≤ wr.heap.size from hbw);clear hj hz ea3 hA2 hbw;go_wp2_with (at_builtin; refine zHk rfl _ _ rfl w3.heap.size _ (M.drop (j + 1)).reverse rfl (hown.alloc _) wr.heap.size y rfl (Box.new rfl) hle2 (by have := hsz.out; simp; omega) ?_; intro w4 v4 hown4 hg4 hn4)
      have hlt := fun k hk => ((hown.alloc (.cells (cP y).toArray 30)).lt k hk).1;have hw4 := (hw3.alloc (by have := hsz.out; have := HZ3.out; omega) (.cells (cP y).toArray 30)).grown hg4 (by have := hsz.out; have := HZ3.out; simp; omega) (fun k hk => by have := hlt k hk; have := HZ3.out; omega);have r5 := (r4.ext (w' := wr.alloc (.cells (cP y).toArray 30)) (by go_grown) rfl);have r6 : RowAt cP 2 w4 (some ad) M := r5.kept hg4 (fun ad' e k => by cases e; have := hlt _ k.symm; have := HAD.out; omega);clear z1 t0 t1 hlt
      go_roundw
      case rel => exact ⟨j, _, rfl, by first | rfl | exact e2.out, hjn.out, by rw [HT.out]; exact hown4, r6, Lib.hid (by have := hg4.size; have := hsz.out; simp at *; omega), hw4⟩
      case measure => simp [intOf]; have := e2.out; omega
  ·intro u x T R' w1 hperm HR1 hg1 hs1 hen;have hD2 := Lib.hid (show ((D ++ [((u, x), T)]) ++ R').Perm E by have := (hperm.append_left D).symm.trans hD.out; simpa using this);have own1 := hown.kept hg1 (.inr (fun e => zAr hown HR e.symm));have hzi := hiz.out;have Bp1 := Bp.grown2 hg1 (fun k hk => by cases hk; omega);have Bq1 := Bq.grown2 hg1 (fun k hk => by cases hk; omega);have hw1 := hw.grown hg1 hw.size (fun k hk => by cases hk; omega);have HL := Lib.hid (show w1.rangeLeft b it < wr.rangeLeft b it by rw [zA9 HR1, zA9 HR, hperm.length_eq]; simp);have hen2 : (Instr.entry (.pointer (some ⟨it, 0, none⟩))).run Tryz.prog w1 = .ok (.tuple #[.agg #[.int .i64 u.x, .int .i64 u.y, .int .i64 x.x, .int .i64 x.y], .agg #[.int .i64 T.A.x, .int .i64 T.A.y, .int .i64 T.B.x, .int .i64 T.B.y, .int .i64 T.C.x, .int .i64 T.C.y]]) w1 := hen;have hle : (onE D p q).length ≤ 1000000 := by have := hD2.out.length_eq; have := zJj D p q; simp at *; omega
   have HB := Lib.hid hw1.size;have HQ := Lib.hid Bq1.lt;clear hown HR hg1 hs1 hen hperm hw Bp Bq hzi;have Fp := Bp1.f;have Fq := Bq1.f;have con := fun w0 => zFe u p q w0;have hb2 : Below w1.heap.size w1 (w1.alloc (.cells #[.int .i64 u.x, .int .i64 u.y, .int .i64 x.x, .int .i64 x.y] 93)) := by go_grown
   go_wp2_with fail;refine zA1 fun W2 hW => ?_;have Be : Box W2 w1.heap.size [.int .i64 u.x, .int .i64 u.y, .int .i64 x.x, .int .i64 x.y] 93 := by rw [hW]; exact Box.new rfl
   have hw2 : Below w1.heap.size w1 W2 := by rw [hW]; go_grown
   clear hW hb2;refine (con _).mono ?_;rintro e w3 ⟨rfl, hb⟩;have hb3 := (upB hw2 hb);have Be3 := Be.ee hb;have Bp3 := Bp1.ee hb3;have Bq3 := Bq1.ee hb3;have own3 := zCp own1 hb3;have HR3 := HR1.ee hb3;have hw3 := (upB hw1 hb3);have HL3 := Lib.hid (show w3.rangeLeft b it < wr.rangeLeft b it by rw [zA9 HR3, ← zA9 HR1]; exact HL.out);have HB3 := Lib.hid (show w.heap.size + 2 ≤ w3.heap.size by have := HQ.out; have := hb3.size; omega);clear con hb hb3 hw2 Be Bp1 Bq1 own1 HR1 hw1 HL HB HQ hen2 Fp Fq;have Fe := Be3.f;cases hon : onR u p q with
   | true =>
    have HH := Lib.hid (show onE (D ++ [((u, x), T)]) p q = onE D p q ++ [u] by rw [zH2, onE_yes hon]);clear hon;go_wp2_with (at_builtin; refine zHk rfl _ _ rfl (w.heap.size + 2) _ (onE D p q) rfl (own3.alloc _) w3.heap.size u rfl (Box.new rfl) hle (by have := HB3.out; simp; omega) ?_; intro w4 v4 hown4 hg4 hn4)
    have hR3 := HR3.kept (World.grownBy_alloc _ (.cells (cP u).toArray 30) none) (by simp) (by simp);have hR4 := hR3.kept hg4 (zBa (own3.alloc _) hR3.holds) (zAr (own3.alloc _) hR3);have hlt := fun k hk => ((own3.alloc (.cells (cP u).toArray 30)).lt k hk).1;have hw4 := (hw3.alloc (by have := HB3.out; omega) (.cells (cP u).toArray 30)).grown hg4 (by have := HB3.out; simp; omega) (fun k hk => by have := hlt k hk; omega);have Bp4 := (Bp3.old _).grown2 hg4 (fun k hk => by have := hlt k hk; omega);have Bq4 := (Bq3.old _).grown2 hg4 (fun k hk => by have := hlt k hk; omega);clear Fe hlt
    go_roundw
    case rel => exact ⟨D ++ [((u, x), T)], R', hD2, by rw [HH.out]; exact hown4, hR4, Bp4, Bq4, hw4⟩
    case measure => rw [zA9 hR4, ← zA9 HR3]; exact HL3.out
   | false =>
    have HH := Lib.hid (show onE (D ++ [((u, x), T)]) p q = onE D p q by rw [zH2, onE_no hon, List.append_nil]);clear hon;go_wp2
    go_roundw
    case rel => exact ⟨D ++ [((u, x), T)], R', hD2, by rw [HH.out]; exact own3, HR3, Bp3, Bq3, hw3⟩
    case measure => exact HL3.out
def crossD (a b : Pt) (D : Es) : List Wl := D.filterMap fun e => if decide (cmpP e.1.1 e.1.2 < 0) && decide (meetR a b e.1.1 e.1.2 = 1) then some ⟨e.1.1, e.1.2, 0⟩ else none
theorem zD0 (a b : Pt) (D F : Es) : crossD a b (D ++ F) = crossD a b D ++ crossD a b F := by unfold crossD; rw [List.filterMap_append]
theorem zF0 (a b u x : Pt) (T : Tri3) : crossD a b [((u, x), T)] = if (decide (cmpP u x < 0) && decide (meetR a b u x = 1)) = true then [⟨u, x, 0⟩] else [] := by
 unfold crossD;simp only [List.filterMap_cons, List.filterMap_nil];generalize (decide (cmpP u x < 0) && decide (meetR a b u x = 1)) = c
 cases c <;> rfl
theorem zHd (a b : Pt) (D : Es) : (crossD a b D).length ≤ D.length := List.length_filterMap_le _ _
theorem crossD_perm (a b : Pt) {D F : Es} (h : D.Perm F) : (crossD a b D).Perm (crossD a b F) := h.filterMap _
theorem zF1 {a b : Pt} {D : Es} {x : Wl} (h : x ∈ crossD a b D) : x.K = 0 ∧ cmpP x.A x.B < 0 ∧ meetR a b x.A x.B = 1 ∧ ∃ T, ((x.A, x.B), T) ∈ D := by
 unfold crossD at h;rw [List.mem_filterMap] at h;obtain ⟨e, he, hx⟩ := h;split at hx
 ·rename_i hc
  simp only [Bool.and_eq_true, decide_eq_true_eq] at hc;simp only [Option.some.injEq] at hx;rw [← hx];exact ⟨rfl, hc.1, hc.2, e.2, he⟩
 ·cases hx
def fstep (a b : Pt) (E : Es) (x : Wl) (Q : List Wl) : Es × List Wl :=
 match getE E (x.A, x.B), getE E (x.B, x.A) with
 | some S, some R =>
  if (flipD E x.A x.B).1 ≠ 0 then ((flipD E x.A x.B).2, Q ++ [x])
  else if meetR a b (apx S x.A x.B) (apx R x.A x.B) = 1 then ((flipD E x.A x.B).2, Q ++ [⟨rl (apx S x.A x.B) (apx R x.A x.B), rg (apx S x.A x.B) (apx R x.A x.B), 0⟩]) else ((flipD E x.A x.B).2, Q)
 | _, _ => (E, Q)
def forceR (a b : Pt) : Nat → Es → List Wl → Es × List Wl
 | 0, E, Q => (E, Q)
 | _ + 1, E, [] => (E, [])
 | n + 1, E, x :: Q => forceR a b n (fstep a b E x Q).1 (fstep a b E x Q).2
theorem forceR_nil (a b : Pt) (E : Es) : ∀ n, forceR a b n E [] = (E, [])
 | 0 => rfl
 | _ + 1 => rfl
def capN : Nat := 1000000
theorem zCe {a b : Pt} {E : Es} {x : Wl} {Q : List Wl} (h : getE E (x.A, x.B) = none ∨ getE E (x.B, x.A) = none) : fstep a b E x Q = (E, Q) := by
 unfold fstep;rcases h with h | h
 ·rw [h]
 ·rw [h]; cases getE E (x.A, x.B) <;> rfl
theorem zEx {a b : Pt} {E : Es} {x : Wl} {Q : List Wl} {S R : Tri3} (h0 : getE E (x.A, x.B) = some S) (h1 : getE E (x.B, x.A) = some R) : fstep a b E x Q = if (flipD E x.A x.B).1 ≠ 0 then ((flipD E x.A x.B).2, Q ++ [x]) else if meetR a b (apx S x.A x.B) (apx R x.A x.B) = 1 then ((flipD E x.A x.B).2, Q ++ [⟨rl (apx S x.A x.B) (apx R x.A x.B), rg (apx S x.A x.B) (apx R x.A x.B), 0⟩]) else ((flipD E x.A x.B).2, Q) := by
 unfold fstep; rw [h0, h1]
theorem append_wls {w : World} {ops : Array Oper} {rest : List Oper} {o : Oper} {a : Act} {Q : Exit → Act → World → Prop} (hgd : o.guard = none) (s x : Operand)
    (ho : o.op = .call { callee := .builtin .append, args := #[s, x], argTypes := #[101, 101] })
    (B : Nat) (v : Value) (L : List Wl) (hs : a.eval s = v) (hown : WRow w B v L)
    (ad : Option Addr) (n c : Nat) (M : List Wl) (hx : a.eval x = .slice ad n c) (hM : M.length = n) (hrow : RowAt cW 5 w ad M) (hfl : Flat ad) (hnn : ad ≠ none) (hn : L.length + n ≤ 1000000) (hbase : B ≤ w.heap.size)
    (h : ∀ w' v', WRow w' B v' (L ++ M) → w.grownBy w' v.ownBlock → wpList Tryz.prog ops Q rest (a.put o.dst v') w') : wpList Tryz.prog ops Q (o :: rest) a w := by
 obtain ⟨i0, hi, hz0, hz1, hz2⟩ := info_parts zGe;cases ad with
 | none => exact absurd rfl hnn
 | some A =>
  have hA : A = ⟨A.block, A.off, none⟩ := by have := hfl A rfl; cases A; simp_all
  rw [hA] at hx hrow;refine wpList_append_own w hgd s x 101 ho B 105 i0 _ 5 40 Tryz.underlying101 hi hz0 hz1 hz2 rfl (by decide) v L.length _ hs hown ⟨A.block, A.off, none⟩ n c (M.flatMap cW) hx (by rw [zBf zHu, hM]) (fun j u hu => by rw [Addr.add_lit]; exact (hrow.flat j u hu).2) (fun u hu => by
   obtain ⟨y, _, hy⟩ := List.mem_flatMap.1 hu;exact zL4 y u hy) (by unfold maxLen; omega) (by omega) hbase ?_
  intro v' w' hown' hg _;refine h w' v' ?_ hg;unfold WRow;rw [List.length_append, List.flatMap_append, hM];exact hown'
theorem zIi {w w' w2 : World} {b : Nat} {r : Option Nat} (h : w.grownBy w' (some b)) (hg : w'.grownBy w2 r) (hr : ∀ k, r = some k → w.heap.size ≤ k) : w.grownBy w2 (some b) :=
 ⟨hg.os.trans h.os, hg.tape.trans h.tape, hg.output.trans h.output, Nat.le_trans h.size hg.size, fun k hk hn => (hg.block k (Nat.lt_of_lt_of_le hk h.size) (fun e => by have := hr k e.symm; omega)).trans (h.block k hk hn)⟩
theorem made_row2 (w : World) (o : Obj) : WRow ((w.alloc o).alloc (.cells #[] 105)) w.heap.size (.slice (some ⟨w.heap.size + 1, 0, none⟩) 0 0) [] := by
 have h := zE1 (w.alloc o) w.heap.size (by simp)
 simpa using h
def tl1 (ad : Addr) (cap : Nat) : Addr := if cap = 1 then ad else ad.add 5
theorem run_tail_wal (ad : Addr) (n cap : Nat) (w : World) : (Instr.slice 101 (.slice (some ad) (n + 1) cap) (some (.int .i64 1)) none none).run Tryz.prog w = .ok (.slice (some (tl1 ad cap)) n (cap - 1)) w := by
 have h := zEp (some ad) (n + 1) cap 1 (by omega) w;refine (show _ = _ from h).trans ?_;unfold tl1;split <;> simp
attribute [local go_sem ↓ 10000] run_tail_wal
def ForcePost (b : Nat) (E : Es) (a b0 : Pt) (w : World) (e : Ending) (w' : World) : Prop :=
 e = .returned (.tuple #[]) ∧ ∃ Q0 : List Wl, Q0.Perm (crossD a b0 E) ∧ w.grownBy w' (some b) ∧ HoldsMap eW eT okW w' b (forceR a b0 capN E Q0).1
theorem rforce_any (mb b : Nat) (E : Es) (L : List Tri3) (hE : E.length ≤ 100000) (g : Good E L) (a b0 : Pt) (w : World) (Bm : Box w mb [.map (some b)] 41) (Hm : HoldsMap eW eT okW w b E) :
    Calls Tryz.prog 134 #[.pointer (some ⟨mb, 0, none⟩), .agg #[.int .i64 a.x, .int .i64 a.y], .agg #[.int .i64 b0.x, .int .i64 b0.y]] w (ForcePost b E a b0 w) := by
 have hok : ∀ e ∈ E, okW e.1 := zHt g;have HG := Lib.hid g;clear g;have Fm := Bm.f;have e1 : (mb = w.heap.size + 1) = False := by have := Bm.lt; simp; omega
 have e2 : (mb = w.heap.size + 1 + 1) = False := by have := Bm.lt; simp; omega
 go_enter Tryz.func134, Tryz.ntmps134
 go_wp2_with (at_range; refine zAx _ rfl _ rfl kvR rfl (((Hm.alloc _).alloc _).alloc _) ?_)
 intro w0 HR0 hw0 hs0;have Ba0 : Box w0 w.heap.size [.int .i64 a.x, .int .i64 a.y] 30 := (((Box.new rfl).old _).old _).ext hw0 (by simp);have Bb0 : Box w0 (w.heap.size + 1) [.int .i64 b0.x, .int .i64 b0.y] 30 := ((Box.new (by simp)).old _).ext hw0 (by simp);have So0 : DocAt w0 (w.heap.size + 1 + 1) (.slice none 0 0) [] := ⟨(Box.new (by simp)).ext hw0 (by simp), World.ownsRow_nil _ _ _ _, by simp [Value.ownBlock], by simp⟩;replace hw0 : Below w.heap.size w w0 := ((((Below.refl w.heap.size w).alloc (Nat.le_refl _) _).alloc (by simp) _).alloc (by simp; omega) _).trans (hw0.mono (by omega));clear Fm hs0 e1 e2;go_wp2
 go_loopw [] (fun wr => ∃ (D R : Es) (v : Value) (L : List Wl), Hid ((D ++ R).Perm E) ∧ Hid (L.Perm (crossD a b0 D)) ∧ DocAt wr (w.heap.size + 1 + 1) v L ∧ Hid (∀ k, v.ownBlock = some k → w.heap.size + 3 ≤ k) ∧ Ranging eW eT okW wr b (w.heap.size + 1 + 1 + 1) E R ∧ Box wr w.heap.size [.int .i64 a.x, .int .i64 a.y] 30 ∧ Box wr (w.heap.size + 1) [.int .i64 b0.x, .int .i64 b0.y] 30 ∧ Below w.heap.size w wr) (fun wr => wr.rangeLeft b (w.heap.size + 1 + 1 + 1))
 case atStart => exact ⟨[], E, _, [], Lib.hid (by simp), Lib.hid (.refl _), So0, Lib.hid (by simp [Value.ownBlock]), by simpa using HR0, Ba0, Bb0, hw0⟩
 case round =>
  clear HR0 hw0 So0 Ba0 Bb0;obtain ⟨D, R, v, L, hD, hL, So, hB, HR, Ba, Bb, hw⟩ := hrel;go_wp2_with (at_next; refine zB5 _ rfl _ rfl rfl HR ?_ ?_)
  ·intro hR;subst hR;have hp0 := Lib.hid (show L.Perm (crossD a b0 E) from hL.out.trans (crossD_perm a b0 (by simpa using hD.out)));have hlE := Lib.hid (show L.length ≤ 100000 by rw [hp0.out.length_eq]; exact Nat.le_trans (zHd a b0 E) hE);obtain ⟨a1, c', rfl, Dr, hz⟩ := So.rd;have Fo := Dr.box.f;have hown : WRow wr (w.heap.size + 2) (.slice a1 L.length c') L := by
    rcases So.row.box with ⟨e1, e2⟩ | ⟨g, cap, tl, e1, _, k1, k2, k3, k4⟩
    ·rw [e1, e2]; exact WRow.nil0 _ _
    ·rw [e1]; exact WRow.of_box (by have := hB.out g (by rw [e1]; rfl); omega) k1 k2 k3 k4
   have HK0 := Lib.hid (show ∀ x ∈ L, okW (x.A, x.B) from fun x hx => by
    obtain ⟨_, _, _, T, hT⟩ := zF1 (hp0.out.mem_iff.1 hx);exact hok _ hT)
   have Hb := HR.holds;have HQ0 := Lib.hid (show ∃ L1, Good E L1 from ⟨_, HG.out⟩);have HP0 := Lib.hid (show forceR a b0 (capN - 0) E L = forceR a b0 capN E L by rw [Nat.sub_zero]);have hg0 : w.grownBy wr (some b) := zA8 hw _;clear So Dr hz HR hw hB hL hD HG;go_wp2
   go_loopw [8, 9] (fun v8 v9 wr => ∃ (k : Nat) (E1 : Es) (Q : List Wl), v9 = .int .i64 k ∧ k ≤ 1000000 ∧ WRow wr (w.heap.size + 2) v8 Q ∧ Hid (Q.length ≤ 100000) ∧ Hid (∀ x ∈ Q, okW (x.A, x.B)) ∧ HoldsMap eW eT okW wr b E1 ∧ Hid (∃ L1, Good E1 L1) ∧ Hid (forceR a b0 (capN - k) E1 Q = forceR a b0 capN E L) ∧ Box wr w.heap.size [.int .i64 a.x, .int .i64 a.y] 30 ∧ Box wr (w.heap.size + 1) [.int .i64 b0.x, .int .i64 b0.y] 30 ∧ w.grownBy wr (some b)) (fun _ v9 _ => 1000000 - (intOf v9).toNat)
   case atStart => exact ⟨0, E, L, rfl, Nat.zero_le _, hown, hlE, HK0, Hb, HQ0, HP0, Ba, Bb, hg0⟩
   case round =>
    clear hown hlE Hb HQ0 HP0 Ba Bb hg0 HK0 Fo;obtain ⟨k, E1, Q, rfl, hk, hown, hlE, HK0, Hb, HQ0, HP0, Ba, Bb, hg0⟩ := hrel;cases Q with
    | nil =>
     obtain ⟨a8, c8, rfl, _, _⟩ := hown.row;have HE := Lib.hid (show (forceR a b0 capN E L).1 = E1 by rw [← HP0.out, forceR_nil]);go_wp2;exact bodyPost_end (results_none rfl _ _ _) rfl ⟨rfl, L, hp0.out, hg0, by rw [HE.out]; exact Hb⟩
    | cons x Q =>
     by_cases hlt : k < 1000000
     case neg =>
      obtain ⟨a8, c8, rfl, _, _⟩ := hown.row;have q1 : decide ((k : Int) < 1000000) = false := by simp; omega
      have q2 : decide (0 < (Q.length : Int) + 1) = true := decide_eq_true (by omega);have HE := Lib.hid (show (forceR a b0 capN E L).1 = E1 by rw [← HP0.out, show capN - k = 0 by unfold capN; omega]; rfl);clear hlt;go_wp2;exact bodyPost_end (results_none rfl _ _ _) rfl ⟨rfl, L, hp0.out, hg0, by rw [HE.out]; exact Hb⟩
     case pos =>
      have q1 : decide ((k : Int) < 1000000) = true := by simp; omega
      have HF := Lib.hid (show forceR a b0 (capN - (k + 1)) (fstep a b0 E1 x Q).1 (fstep a b0 E1 x Q).2 = forceR a b0 capN E L by
       rw [← HP0.out, show capN - k = capN - (k + 1) + 1 by unfold capN; omega]; rfl)
      clear HP0;obtain ⟨a8, c8, rfl, hr8, hf8⟩ := hown.row;obtain ⟨m, hm⟩ : ∃ m, Q.length = m := ⟨_, rfl⟩;have HM := Lib.hid hm;have hn8 : (x :: Q).length = m + 1 := by rw [List.length_cons, hm]
      have hnc : m + 1 ≤ c8 := by
       rcases hown.box with ⟨e1, e2⟩ | ⟨g, cap, tl, e1, _, _, k2, _⟩
       ·cases e2
       ·simp only [Value.slice.injEq] at e1; omega
      obtain ⟨ad, A, ea, eA, hA⟩ := hr8.five (j := 0) (by simp);subst ea;obtain ⟨ad1, hd1, hr1, hf1, hz1⟩ := zEk (k := 1) hr8 hn8 hnc hf8 (by omega) (fun e => by cases e);have e1 : ad1 = some (tl1 ad c8) := by rw [← hd1]; unfold tl1; split <;> simp
      rw [e1] at hr1 hf1;have hnn : some (tl1 ad c8) ≠ none := by simp
      rw [hn8];have q2 : decide (0 < (m : Int) + 1) = true := decide_eq_true (by omega);simp only [dP1, dP0] at hr1;have hA : Five wr A x := hA;have hAb := hA.1;obtain ⟨zA, d0, d1, d2, d3, d4⟩ := hA.f;have hle2 : ([] : List Wl).length + m ≤ 1000000 := by have := hlE.out; rw [List.length_cons, hm] at this; simp; omega
      clear e1 hd1 hz1 hown hf8 hr8 hnc hn8 hA hk;go_wp2_with (
       at_builtin
       (refine append_wls rfl _ _ rfl wr.heap.size (.slice (some ⟨wr.heap.size + 1, 0, none⟩) 0 0) [] rfl (made_row2 wr _) _ m (c8 - 1) Q rfl HM.out ((hr1.old _).old _) hf1 hnn hle2 (by simp; omega) ?_)
       intro w4 v4 hown4 hg4;have hne : ∀ k, (Value.slice (some ⟨wr.heap.size + 1, 0, none⟩) 0 0).ownBlock = some k → k = wr.heap.size + 1 := fun k hk => by have hk' : some (wr.heap.size + 1) = some k := hk; cases hk'; rfl
       have lA := Ba.lt;have lB := Bb.lt;have Bw : Box w4 wr.heap.size [.int .i64 x.A.x, .int .i64 x.A.y, .int .i64 x.B.x, .int .i64 x.B.y, .int .i64 x.K] 105 := ((Box.new rfl).old _).grown2 hg4 (fun k hk => by have := hne k hk; omega);have Ba4 := ((Ba.old _).old _).grown2 hg4 (fun k hk => by have := hne k hk; omega);have Bb4 := ((Bb.old _).old _).grown2 hg4 (fun k hk => by have := hne k hk; omega);have hw : Below wr.heap.size wr w4 := (((Below.refl wr.heap.size wr).alloc (Nat.le_refl _) _).alloc (by simp) _).grown hg4 (by simp; omega) (fun k hk => by have := hne k hk; omega);rw [List.nil_append] at hown4;have hwr2 := Lib.hid (show w.heap.size + 1 < wr.heap.size from lB);clear hne lA lB Ba Bb hg4 zA d0 d1 d2 d3 d4 hr1;have Fw := Bw.f;have Fa := Ba4.f;have Fb := Bb4.f)
      have hkx : okW (x.A, x.B) := HK0.out x (by simp);have HKQ := Lib.hid (show ∀ y ∈ Q, okW (y.A, y.B) from fun y hy => HK0.out y (List.mem_cons_of_mem _ hy));have HXK := Lib.hid hkx;have hl2 := Lib.hid (show Q.length + 1 ≤ 100000 by have := hlE.out; rw [List.length_cons] at this; exact this);have B4 : Box w4 mb [.map (some b)] 41 := (Bm.turn Hm hg0).ee hw;have H4 := Hb.ee hw;have hg4 := zAc hg0 hw;have hrz := Lib.hid (show w.heap.size + 2 ≤ wr.heap.size by have := hwr2.out; omega);have own4 := hown4.base (show w.heap.size + 2 ≤ wr.heap.size from hrz.out);have Ba := Ba4;have Bb := Bb4;clear hw Hb hg0 HK0 hlE hnn hf1 Ba4 Bb4;have hw : Below w4.heap.size w4 w4 := Below.refl _ _;have cl := zAa mb b E1 x.A x.B hkx;have cr := zAa mb b E1 x.B x.A ⟨hkx.2, hkx.1⟩;clear hkx;cases h0 : getE E1 (x.A, x.B) with
      | none =>
       have HFN := Lib.hid (show forceR a b0 (capN - (k + 1)) E1 Q = forceR a b0 capN E L by rw [← HF.out, zCe (.inl h0)]);rw [zB3 h0] at cl;generalize lftE E1 x.B x.A = Z at cr
       obtain ⟨Y, y⟩ := Z;dsimp only at cr;clear HF h0;refine (cl _ (B4.ee hw) (H4.ee hw)).mono ?_;rintro e w51 ⟨rfl, hb⟩;clear Fw Fa Fb;obtain ⟨Bw, Ba, Bb, hw, -⟩ := X3 Bw Ba Bb hw hb;clear hb;have Fw := Bw.f;have Fa := Ba.f;have Fb := Bb.f;go_wp2_with fail;clear Fw Fa Fb;refine zA1 fun W52 hW => ?_;obtain ⟨bks, hbs⟩ : ∃ b, w51.heap.size = b := ⟨_, rfl⟩;rw [hbs];obtain ⟨lws, las, lbs, fs, Bs, Bw, Ba, Bb, hw⟩ := M3 hW hbs Bw Ba Bb hw;clear hW hbs;refine (cr _ (B4.ee hw) (H4.ee hw)).mono ?_;rintro e w53 ⟨rfl, hb⟩;obtain ⟨Bw, Ba, Bb, Bs, hw, -⟩ := X4 Bw Ba Bb Bs hw hb;clear hb;have Fw := Bw.f;have Fa := Ba.f;have Fb := Bb.f;have Fs := Bs.f;go_wp2
       go_roundw
       case rel => exact ⟨k + 1, E1, Q, by go_num, by omega, own4.ext (by have hl := hw.size; go_grown) rfl, Lib.hid (by have := hl2.out; omega), HKQ, H4.ext (by have hl := hw.size; go_grown) rfl, HQ0, HFN, Ba.ext (by have hl := hw.size; go_grown) rfl, Bb.ext (by have hl := hw.size; go_grown) rfl, zAc hg4 (by have hl := hw.size; go_grown)⟩
       case measure => simp [intOf]; omega
      | some S =>
       rw [zAi h0] at cl;cases h1 : getE E1 (x.B, x.A) with
       | none =>
        have HFN := Lib.hid (show forceR a b0 (capN - (k + 1)) E1 Q = forceR a b0 capN E L by rw [← HF.out, zCe (.inr h1)]);rw [zB3 h1] at cr;clear HF h0 h1;refine (cl _ (B4.ee hw) (H4.ee hw)).mono ?_;rintro e w51 ⟨rfl, hb⟩;clear Fw Fa Fb;obtain ⟨Bw, Ba, Bb, hw, -⟩ := X3 Bw Ba Bb hw hb;clear hb;have Fw := Bw.f;have Fa := Ba.f;have Fb := Bb.f;go_wp2_with fail;clear Fw Fa Fb;refine zA1 fun W52 hW => ?_;obtain ⟨bks, hbs⟩ : ∃ b, w51.heap.size = b := ⟨_, rfl⟩;rw [hbs];obtain ⟨lws, las, lbs, fs, Bs, Bw, Ba, Bb, hw⟩ := M3 hW hbs Bw Ba Bb hw;clear hW hbs;refine (cr _ (B4.ee hw) (H4.ee hw)).mono ?_;rintro e w53 ⟨rfl, hb⟩;obtain ⟨Bw, Ba, Bb, Bs, hw, -⟩ := X4 Bw Ba Bb Bs hw hb;clear hb;have Fw := Bw.f;have Fa := Ba.f;have Fb := Bb.f;have Fs := Bs.f;go_wp2
        go_roundw
        case rel => exact ⟨k + 1, E1, Q, by go_num, by omega, own4.ext (by have hl := hw.size; go_grown) rfl, Lib.hid (by have := hl2.out; omega), HKQ, H4.ext (by have hl := hw.size; go_grown) rfl, HQ0, HFN, Ba.ext (by have hl := hw.size; go_grown) rfl, Bb.ext (by have hl := hw.size; go_grown) rfl, zAc hg4 (by have hl := hw.size; go_grown)⟩
        case measure => simp [intOf]; omega
       | some R =>
        rw [zAi h1] at cr;have HS := Lib.hid (zEx (a := a) (b := b0) (Q := Q) h0 h1);have HGD := Lib.hid (show ∃ L1, Good (flipD E1 x.A x.B).2 L1 from by obtain ⟨L1, g1⟩ := HQ0.out; exact good_flipD g1 _ _);have HVC := Lib.hid (show vld (apx S x.A x.B) = true ∧ vld (apx R x.A x.B) = true from by obtain ⟨L1, g1⟩ := HQ0.out; obtain ⟨_, _, _, _, _, v1, v2⟩ := zEw g1 h0 h1; exact ⟨v1, v2⟩);obtain ⟨L1, g1⟩ := HQ0.out;have cf := fun w0 B1 H1 => rflip_any mb b E1 L1 g1 x.A x.B HXK.out w0 B1 H1;clear g1 HQ0 L1;have k1 := zBy S x.A x.B;have k2 := zBy R x.A x.B;generalize apx S x.A x.B = C at *
        generalize apx R x.A x.B = D at *
        generalize flipD E1 x.A x.B = RE at *
        obtain ⟨r, E2⟩ := RE;dsimp only at cf HS HGD;clear h0 h1;refine (cl _ (B4.ee hw) (H4.ee hw)).mono ?_;rintro e w51 ⟨rfl, hb⟩;clear Fw Fa Fb;obtain ⟨Bw, Ba, Bb, hw, -⟩ := X3 Bw Ba Bb hw hb;clear hb;have Fw := Bw.f;have Fa := Ba.f;have Fb := Bb.f;go_wp2_with fail;clear Fw Fa Fb;refine zA1 fun W52 hW => ?_;obtain ⟨bks, hbs⟩ : ∃ b, w51.heap.size = b := ⟨_, rfl⟩;rw [hbs];obtain ⟨lws, las, lbs, fs, Bs, Bw, Ba, Bb, hw⟩ := M3 hW hbs Bw Ba Bb hw;clear hW hbs;refine (cr _ (B4.ee hw) (H4.ee hw)).mono ?_;rintro e w53 ⟨rfl, hb⟩;obtain ⟨Bw, Ba, Bb, Bs, hw, -⟩ := X4 Bw Ba Bb Bs hw hb;clear hb;have Fw := Bw.f;have Fa := Ba.f;have Fb := Bb.f;have Fs := Bs.f;go_wp2_with fail;clear Fw Fa Fb Fs;refine zA3 fun W54 hW => ?_;obtain ⟨bkt, hbt⟩ : ∃ b, w53.heap.size = b := ⟨_, rfl⟩;rw [hbt];obtain ⟨lwt, lat, lbt, lst, ft, Bt, Bw, Ba, Bb, Bs, hw⟩ := M4 hW hbt Bw Ba Bb Bs hw;clear hW hbt;have gw := Bw.cells;have ga := Ba.cells;have gb := Bb.cells;have gs := Bs.cells;have gt := Bt.cells;refine zAu 14 [⟨12, 15, 30, [.int .i64 0, .int .i64 0]⟩, ⟨13, 16, 30, [.int .i64 0, .int .i64 0]⟩] ?_ (by kernel_rfl) (by decide) (by decide) (by kernel_rfl) (by decide) (C := fun w' => ∃ p : Regrown, w' = grow (redrawn W54 p.d) p.os) rgB ?_
        ·simp only [List.forall_mem_cons];refine ⟨⟨_, rfl, rfl, rfl, rfl, fun ρ W => by simp [execOp, go_sem]⟩, ⟨_, rfl, rfl, rfl, rfl, fun ρ W => by simp [execOp, go_sem]⟩, fun _ h => (by cases h)⟩
        simp only [List.take_succ_cons, List.take_zero, List.map_cons, List.map_nil, dropIdx, List.contains_cons, List.contains_nil, Nat.reduceBEq, Nat.reduceAdd, Bool.or_false, Bool.or_true, Bool.or_self, Bool.false_eq_true, if_true, if_false];repeat (first | (refine zA0 (Eq.refl false) ?_; simp only [Act.put, sT2, sT1, sT0]) | (refine rWalk_step (fun K hK => ?_); go_simp; first | (refine hK _ ?_; clear hK K) | (apply Exists.intro; refine ⟨fun _ => ?_, hK _ ?_⟩; (first | with_reducible exact toExt k1 _ | with_reducible exact toExt k2 _); clear hK K)))
        refine rWalk_nil ?_;intro w55 β hL;simp only [putD, List.drop_succ_cons, List.drop_zero];have qc := hL.box ⟨12, 15, 30, [.int .i64 0, .int .i64 0]⟩ (by simp) (by simp);simp only at qc;have qd := hL.box ⟨13, 16, 30, [.int .i64 0, .int .i64 0]⟩ (by simp) (by simp);simp only at qd;have ncd := hL.apart 15 (by simp) 16 (by simp) (by decide);have ndc := hL.apart 16 (by simp) 15 (by simp) (by decide);have hb := hL.below;have lw := Bw.lt;have la := Ba.lt;have lb := Bb.lt;have ls := Bs.lt;have lt := Bt.lt;clear gw ga gb gs gt;replace Bw := Bw.ee hb;replace Ba := Ba.ee hb;replace Bb := Bb.ee hb;replace Bs := Bs.ee hb;replace Bt := Bt.ee hb;have hw0 := hw.size;replace hw := upB hw hb;clear hb hL;generalize β 15 = bkc at *
        generalize β 16 = bkd at *
        clear β;obtain ⟨fc, Bc⟩ := qc;obtain ⟨fd, Bd⟩ := qd;simp only [Act.put];have Fc := Bc.f;have Fd := Bd.f;have Fw := Bw.f;have Fa := Ba.f;have Fb := Bb.f;have Fs := Bs.f;have Ft := Bt.f;have ewbkc : (wr.heap.size = bkc) = False := by simp; omega
        have ewbkc' : (bkc = wr.heap.size) = False := by simp; omega
        have ewbkd : (wr.heap.size = bkd) = False := by simp; omega
        have ewbkd' : (bkd = wr.heap.size) = False := by simp; omega
        have eabkc : (w.heap.size = bkc) = False := by simp; omega
        have eabkc' : (bkc = w.heap.size) = False := by simp; omega
        have eabkd : (w.heap.size = bkd) = False := by simp; omega
        have eabkd' : (bkd = w.heap.size) = False := by simp; omega
        have ebbkc : (w.heap.size + 1 = bkc) = False := by simp; omega
        have ebbkc' : (bkc = w.heap.size + 1) = False := by simp; omega
        have ebbkd : (w.heap.size + 1 = bkd) = False := by simp; omega
        have ebbkd' : (bkd = w.heap.size + 1) = False := by simp; omega
        have esbkc : (bks = bkc) = False := by simp; omega
        have esbkc' : (bkc = bks) = False := by simp; omega
        have esbkd : (bks = bkd) = False := by simp; omega
        have esbkd' : (bkd = bks) = False := by simp; omega
        have etbkc : (bkt = bkc) = False := by simp; omega
        have etbkc' : (bkc = bkt) = False := by simp; omega
        have etbkd : (bkt = bkd) = False := by simp; omega
        have etbkd' : (bkd = bkt) = False := by simp; omega
        have ebkcbkd : (bkc = bkd) = False := by simp; omega
        have ebkdbkc : (bkd = bkc) = False := by simp; omega
        go_wp2_with fail;refine zA1 fun W56 hW => ?_;have Cw : Box W56 (wr.heap.size) [.int .i64 x.A.x, .int .i64 x.A.y, .int .i64 x.B.x, .int .i64 x.B.y, .int .i64 x.K] 105 := by rw [hW]; exact ((((Bw.sn bkc 0 (.int .i64 C.x) (by first | assumption | omega)).sn bkc 1 (.int .i64 C.y) (by first | assumption | omega)).sn bkd 0 (.int .i64 D.x) (by first | assumption | omega)).sn bkd 1 (.int .i64 D.y) (by first | assumption | omega))
        have Ca : Box W56 (w.heap.size) [.int .i64 a.x, .int .i64 a.y] 30 := by rw [hW]; exact ((((Ba.sn bkc 0 (.int .i64 C.x) (by first | assumption | omega)).sn bkc 1 (.int .i64 C.y) (by first | assumption | omega)).sn bkd 0 (.int .i64 D.x) (by first | assumption | omega)).sn bkd 1 (.int .i64 D.y) (by first | assumption | omega))
        have Cb : Box W56 (w.heap.size + 1) [.int .i64 b0.x, .int .i64 b0.y] 30 := by rw [hW]; exact ((((Bb.sn bkc 0 (.int .i64 C.x) (by first | assumption | omega)).sn bkc 1 (.int .i64 C.y) (by first | assumption | omega)).sn bkd 0 (.int .i64 D.x) (by first | assumption | omega)).sn bkd 1 (.int .i64 D.y) (by first | assumption | omega))
        have Cs : Box W56 (bks) [.int .i64 S.A.x, .int .i64 S.A.y, .int .i64 S.B.x, .int .i64 S.B.y, .int .i64 S.C.x, .int .i64 S.C.y] 38 := by rw [hW]; exact ((((Bs.sn bkc 0 (.int .i64 C.x) (by first | assumption | omega)).sn bkc 1 (.int .i64 C.y) (by first | assumption | omega)).sn bkd 0 (.int .i64 D.x) (by first | assumption | omega)).sn bkd 1 (.int .i64 D.y) (by first | assumption | omega))
        have Ct : Box W56 (bkt) [.int .i64 R.A.x, .int .i64 R.A.y, .int .i64 R.B.x, .int .i64 R.B.y, .int .i64 R.C.x, .int .i64 R.C.y] 38 := by rw [hW]; exact ((((Bt.sn bkc 0 (.int .i64 C.x) (by first | assumption | omega)).sn bkc 1 (.int .i64 C.y) (by first | assumption | omega)).sn bkd 0 (.int .i64 D.x) (by first | assumption | omega)).sn bkd 1 (.int .i64 D.y) (by first | assumption | omega))
        have Cc : Box W56 (bkc) [.int .i64 C.x, .int .i64 C.y] 30 := by rw [hW]; exact ((((Bc.set 0 (.int .i64 C.x)).set 1 (.int .i64 C.y)).sn bkd 0 (.int .i64 D.x) (by first | assumption | omega)).sn bkd 1 (.int .i64 D.y) (by first | assumption | omega))
        have Cd : Box W56 (bkd) [.int .i64 D.x, .int .i64 D.y] 30 := by rw [hW]; exact ((((Bd.sn bkc 0 (.int .i64 C.x) (by first | assumption | omega)).sn bkc 1 (.int .i64 C.y) (by first | assumption | omega)).set 0 (.int .i64 D.x)).set 1 (.int .i64 D.y))
        replace hw : Below w4.heap.size w4 W56 := by have hl := hw.size; rw [hW]; go_grown
        clear Fc Fd;clear Fw Fa Fb Fs Ft ewbkc ewbkc' ewbkd ewbkd' eabkc eabkc' eabkd eabkd' ebbkc ebbkc' ebbkd ebbkd' esbkc esbkc' esbkd esbkd' etbkc etbkc' etbkd etbkd' ebkcbkd ebkdbkc;clear hW Bw Ba Bb Bs Bt Bc Bd;have Bw := Cw;have Ba := Ca;have Bb := Cb;have Bs := Cs;have Bt := Ct;have Bc := Cc;have Bd := Cd;clear Cw Ca Cb Cs Ct Cc Cd;refine (cf _ (B4.ee hw) (H4.ee hw)).mono ?_;rintro e w90 ⟨rfl, hh, H6⟩;have HX := H4.ee hw;replace Bw := Bw.turn HX hh;replace Ba := Ba.turn HX hh;replace Bb := Bb.turn HX hh;replace Bs := Bs.turn HX hh;replace Bt := Bt.turn HX hh;replace Bc := Bc.turn HX hh;replace Bd := Bd.turn HX hh;have own6 := (own4.ee hw).kept hh (.inr (fun e => zBa (own4.ee hw) HX e.symm));have hg6 := zAh (zAc hg4 hw) hh;clear hw hh HX own4 H4 B4 hg4 cf k1 k2;have hw : Below w90.heap.size w90 w90 := Below.refl _ _;have hle : Q.length ≤ 1000000 := by have := hl2.out; omega
        by_cases hr : r = 0
        case neg =>
         have hr1 : (r != 0) = true := by simp; exact hr
         have HFN := Lib.hid (show forceR a b0 (capN - (k + 1)) E2 (Q ++ [x]) = forceR a b0 capN E L by rw [← HF.out, HS.out, if_pos hr]);have hbz : w.heap.size + 2 ≤ w90.heap.size := by have := Bb.lt; omega
         clear HF HS hr;have Fw := Bw.f;have Fa := Ba.f;have Fb := Bb.f;have Fs := Bs.f;have Ft := Bt.f;have Fc := Bc.f;have Fd := Bd.f;go_wp2_with (at_builtin; refine zIz rfl _ _ rfl (w.heap.size + 2) _ Q rfl (own6.alloc _) w90.heap.size x rfl (Box.new rfl) hle (by simp; omega) ?_; intro w91 v91 own8 hg8 hn8)
         clear Fw Fa Fb Fs Ft Fc Fd;have hlt := fun q hq => (((own6.ee hw).alloc (.cells (cW x).toArray 105)).lt q hq).1;have hla : Below w90.heap.size w90 (w90.alloc (.cells (cW x).toArray 105)) := by have hl := hw.size; go_grown
         have H7 := (H6.ee hla).kept hg8 (zBa ((own6.ee hw).alloc (.cells (cW x).toArray 105)) (H6.ee hla));have Ba7 := (Ba.old _).grown2 hg8 (fun q hq => by have := hlt q hq; omega);have Bb7 := (Bb.old _).grown2 hg8 (fun q hq => by have := hlt q hq; omega);have hg7 := zIi (zAc hg6 hla) hg8 (fun q hq => by have := hlt q hq; omega);clear hlt hla hg8 hn8 H6 own6 hg6 Ba Bb hw
         go_roundw
         case rel => exact ⟨k + 1, E2, Q ++ [x], by go_num, by omega, own8, Lib.hid (by have := hl2.out; simp; omega), Lib.hid (fun y hy => by rcases List.mem_append.1 hy with h | h; exact HKQ.out y h; rw [List.mem_singleton.1 h]; exact HXK.out), H7, HGD, HFN, Ba7, Bb7, hg7⟩
         case measure => simp [intOf]; omega
        case pos =>
         subst hr;have cm := zG6 a b0 C D;have Fw := Bw.f;have Fa := Ba.f;have Fb := Bb.f;have Fs := Bs.f;have Ft := Bt.f;have Fc := Bc.f;have Fd := Bd.f;go_wp2_with fail;refine (cm _).mono ?_;rintro e w57 ⟨rfl, hb⟩;clear Fw Fa Fb Fs Ft Fc Fd;obtain ⟨Bw, Ba, Bb, Bs, Bt, Bc, Bd, hw, -⟩ := X7 Bw Ba Bb Bs Bt Bc Bd hw hb;clear hb;cases hm : decide (meetR a b0 C D = 1)
         case false =>
          have hm1 : (meetR a b0 C D == 1) = false := by simpa using hm
          have HFN := Lib.hid (show forceR a b0 (capN - (k + 1)) E2 Q = forceR a b0 capN E L by rw [← HF.out, HS.out, if_neg (by simp), if_neg (by simpa using hm)]);clear HF HS hm;have Fw := Bw.f;have Fa := Ba.f;have Fb := Bb.f;have Fs := Bs.f;have Ft := Bt.f;have Fc := Bc.f;have Fd := Bd.f;go_wp2
          go_roundw
          case rel => exact ⟨k + 1, E2, Q, by go_num, by omega, own6.ext (by have hl := hw.size; go_grown) rfl, Lib.hid (by have := hl2.out; omega), HKQ, H6.ext (by have hl := hw.size; go_grown) rfl, HGD, HFN, Ba.ext (Below.refl _ _) rfl, Bb.ext (Below.refl _ _) rfl, zAc hg6 (by have hl := hw.size; go_grown)⟩
          case measure => simp [intOf]; omega
         case true =>
          have hm1 : (meetR a b0 C D == 1) = true := by simpa using hm
          have HFN := Lib.hid (show forceR a b0 (capN - (k + 1)) E2 (Q ++ [⟨rl C D, rg C D, 0⟩]) = forceR a b0 capN E L by rw [← HF.out, HS.out, if_neg (by simp), if_pos (by simpa using hm)]);have HKN := Lib.hid (show okW (rl C D, rg C D) from by
           unfold rl rg;split
           ·exact ⟨zCa HVC.out.1, zCa HVC.out.2⟩
           ·exact ⟨zCa HVC.out.2, zCa HVC.out.1⟩)
          have k3 := zF5 C D;have k4 := zF6 C D;generalize rl C D = U at *
          generalize rg C D = V at *
          clear HF HS hm;have Fw := Bw.f;have Fa := Ba.f;have Fb := Bb.f;have Fs := Bs.f;have Ft := Bt.f;have Fc := Bc.f;have Fd := Bd.f;go_wp2_with fail;have gw := Bw.cells;have ga := Ba.cells;have gb := Bb.cells;have gs := Bs.cells;have gt := Bt.cells;have gc := Bc.cells;have gd := Bd.cells;have hcB : ∀ w', (∃ p : Regrown, w' = grow (redrawn w57 p.d) p.os) → Below w57.heap.size w57 w' := fun w' h => by obtain ⟨p, rfl⟩ := h; exact below_regrown _ _ _
          refine FT.wp_region_flow 9 (.run 0 (.run 1 (.run 2 (.run 4 (.run 5 (.alt 3 (.alt 6 (.run 7 (.alt 8 .tail .stop)) .stop) .stop)))))) rfl (by kernel_rfl) (fun _ x _ _ _ h => by cases x <;> exact h) (C := fun w' => ∃ p : Regrown, w' = grow (redrawn w57 p.d) p.os) rgB hcB ?_;have hC : ∀ x y, Ext x y → (∃ p : Regrown, x = grow (redrawn w57 p.d) p.os) → (∃ p : Regrown, y = grow (redrawn w57 p.d) p.os) := fun x y h1 h2 => regrown_of_below ((hcB x h2).trans (h1.mono (hcB x h2).size))
          iterate 5 (refine FT.flow_run rfl (fun K hK => ?_); go_simp; first | (refine hK _ ?_; clear hK K) | (apply Exists.intro; refine ⟨fun _ => ?_, hK _ ?_⟩; rotate_left; clear hK K))
          refine FT.flow_at hC rfl trivial (fun w71 hw71 K hK => ?_);go_simp;refine (k3 w71).mono ?_;rintro e w72 ⟨rfl, hb2⟩;have hb3 := Below.trans hw71 (hb2.mono (Below.size hw71));go_simp;refine hK _ _ (regrown_of_below hb3) ?_;clear hK K;refine FT.flow_at hC rfl trivial (fun w73 hw73 K hK => ?_);have hb4 := (upB hb3 hw73);go_simp;refine (k4 w73).mono ?_;rintro e w74 ⟨rfl, hb5⟩;have hb6 := (upB hb4 hb5);go_simp;refine hK _ _ (regrown_of_below hb6) ?_;clear hK K
          iterate 1 (refine FT.flow_run rfl (fun K hK => ?_); go_simp; first | (refine hK _ ?_; clear hK K) | (apply Exists.intro; refine ⟨fun _ => ?_, hK _ ?_⟩; rotate_left; clear hK K))
          refine FT.flow_at hC rfl trivial (fun w75 hw75 K hK => ?_);have hb7 := (upB hb6 hw75);go_simp;have hb8 := hb7.alloc hb7.size (.cells #[.int .i64 U.x, .int .i64 U.y, .int .i64 V.x, .int .i64 V.y, .int .i64 0] 105);obtain ⟨bz, hbz0⟩ : ∃ bv, w75.heap.size = bv := ⟨_, rfl⟩;have Bz0 : Box (w75.alloc (.cells #[.int .i64 U.x, .int .i64 U.y, .int .i64 V.x, .int .i64 V.y, .int .i64 0] 105)) bz [.int .i64 U.x, .int .i64 U.y, .int .i64 V.x, .int .i64 V.y, .int .i64 0] 105 := by rw [← hbz0]; exact Box.new rfl
          refine hK _ _ (regrown_of_below hb8) ?_;clear hK K;rw [hbz0];generalize hw8 : w75.alloc (.cells #[.int .i64 U.x, .int .i64 U.y, .int .i64 V.x, .int .i64 V.y, .int .i64 0] 105) = w76 at *
          clear hw8 hbz0 hw75 hw73 hw71 hb2 hb3 hb4 hb5 hb6 hb7 hcB hC k3 k4;intro w77 hw77;have hb9 := (upB hb8 hw77);have Bz := Bz0.ee hw77;simp only [dP1, dP0];clear Fw Fa Fb Fs Ft Fc Fd;replace Bw := Bw.ee hb9;replace Ba := Ba.ee hb9;replace Bb := Bb.ee hb9;replace Bs := Bs.ee hb9;replace Bt := Bt.ee hb9;replace Bc := Bc.ee hb9;replace Bd := Bd.ee hb9;clear gw ga gb gs gt gc gd;replace hw := upB hw hb9;clear hb9 hb8 hw77 Bz0;have own7 := own6.ee hw;have H7 := H6.ee hw;have hg7 := zAc hg6 hw;have hbz : w.heap.size + 2 ≤ w77.heap.size := by have := Bb.lt; omega
          clear hw own6 H6 hg6;go_wp2_with (at_builtin; refine zIz rfl _ _ rfl (w.heap.size + 2) _ Q rfl own7 bz ⟨U, V, 0⟩ rfl Bz hle hbz ?_; intro w91 v91 own8 hg8 hn8)
          have hlt := fun q hq => (own7.lt q hq).1;have H8 := H7.kept hg8 (zBa own7 H7);have Ba7 := Ba.grown2 hg8 (fun q hq => by have := hlt q hq; omega);have Bb7 := Bb.grown2 hg8 (fun q hq => by have := hlt q hq; omega);have hg9 := zIi hg7 hg8 (fun q hq => by have := hlt q hq; omega);clear hlt hg8 hn8 H7 own7 hg7 Ba Bb Bz
          go_roundw
          case rel => exact ⟨k + 1, E2, Q ++ [⟨U, V, 0⟩], by go_num, by omega, own8, Lib.hid (by have := hl2.out; simp; omega), Lib.hid (fun y hy => by rcases List.mem_append.1 hy with h | h; exact HKQ.out y h; rw [List.mem_singleton.1 h]; exact HKN.out), H8, HGD, HFN, Ba7, Bb7, hg9⟩
          case measure => simp [intOf]; omega
  ·intro u x T R' w1 hperm HR1 hg1 hs1 hen;have hD2 := Lib.hid (show ((D ++ [((u, x), T)]) ++ R').Perm E by have := (hperm.append_left D).symm.trans hD.out; simpa using this);have hk : okW (u, x) := hok ((u, x), T) (hD2.out.mem_iff.1 (by simp));have So1 : DocAt w1 (w.heap.size + 1 + 1) v L := ⟨So.box.grown2 hg1 (fun k hk => by cases hk; omega), So.row.kept hg1 (.inr (fun e => zAr So.row HR e.symm)), So.ne, So.le⟩;have Ba1 := Ba.grown2 hg1 (fun k hk => by cases hk; omega);have Bb1 := Bb.grown2 hg1 (fun k hk => by cases hk; omega);have hw1 := hw.grown hg1 hw.size (fun k hk => by cases hk; omega);have HL := Lib.hid (show w1.rangeLeft b (w.heap.size + 1 + 1 + 1) < wr.rangeLeft b (w.heap.size + 1 + 1 + 1) by rw [zA9 HR1, zA9 HR, hperm.length_eq]; simp);have hen2 : (Instr.entry (.pointer (some ⟨w.heap.size + 1 + 1 + 1, 0, none⟩))).run Tryz.prog w1 = .ok (.tuple #[.agg #[.int .i64 u.x, .int .i64 u.y, .int .i64 x.x, .int .i64 x.y], .agg #[.int .i64 T.A.x, .int .i64 T.A.y, .int .i64 T.B.x, .int .i64 T.B.y, .int .i64 T.C.x, .int .i64 T.C.y]]) w1 := hen;have hle : L.length < 1000000 := by have := hL.out.length_eq; have := zHd a b0 D; have := hD2.out.length_eq; simp at *; omega
   have hgk : ∀ X ∈ L, 0 ≤ X.K ∧ X.K ≤ 2 := fun X hX => by have := (zF1 (hL.out.mem_iff.1 hX)).1; omega
   clear So HR hg1 hs1 hen hperm hw Ba Bb;go_wp2_with fail;refine zA1 fun W2 hW => ?_;have Be : Box W2 w1.heap.size [.int .i64 u.x, .int .i64 u.y, .int .i64 x.x, .int .i64 x.y] 93 := by rw [hW]; exact Box.new rfl
   have hw2 : Below w1.heap.size w1 W2 := by rw [hW]; go_grown
   clear hW;have So2 := So1.ee hw2;have HR2 := HR1.ee hw2;have Ba2 := Ba1.ee hw2;have Bb2 := Bb1.ee hw2;have hwx := (upB hw1 hw2);have HL2 := Lib.hid (show W2.rangeLeft b (w.heap.size + 1 + 1 + 1) < wr.rangeLeft b (w.heap.size + 1 + 1 + 1) by rw [zA9 HR2, ← zA9 HR1]; exact HL.out);clear So1 HR1 hw1 hw2 HL Ba1 Bb1;refine (zAb u x _).mono ?_;rintro e w3 ⟨rfl, hb⟩;replace Be := Be.ee hb;have Ba3 := Ba2.ee hb;have Bb3 := Bb2.ee hb;replace So2 := So2.ee hb;have HR3 := HR2.ee hb;replace hwx := upB hwx hb;have HL3 := Lib.hid (show w3.rangeLeft b (w.heap.size + 1 + 1 + 1) < wr.rangeLeft b (w.heap.size + 1 + 1 + 1) by rw [zA9 HR3, ← zA9 HR2]; exact HL2.out);have HF := Lib.hid (fun (h1 : decide (cmpP u x < 0) = false) => show L.Perm (crossD a b0 (D ++ [((u, x), T)])) by
    rw [zD0, zF0, h1, Bool.false_and, if_neg (by decide), List.append_nil]; exact hL.out)
   have HG2 := Lib.hid (fun (h1 : decide (meetR a b0 u x = 1) = false) => show L.Perm (crossD a b0 (D ++ [((u, x), T)])) by
    rw [zD0, zF0, h1, Bool.and_false, if_neg (by decide), List.append_nil]; exact hL.out)
   have HH := Lib.hid (fun (h1 : decide (cmpP u x < 0) = true) (h2 : decide (meetR a b0 u x = 1) = true) => show ∀ k, (L.take k ++ (⟨u, x, 0⟩ : Wl) :: L.drop k).Perm (crossD a b0 (D ++ [((u, x), T)])) from fun k => by
    rw [zD0, zF0, h1, h2, Bool.true_and, if_pos rfl];exact (zCk k).trans ((hL.out.cons _).trans (List.perm_append_comm (l₁ := [(⟨u, x, 0⟩ : Wl)]))))
   clear hb HR2 HL2 hL Ba2 Bb2;have cm := fun w0 => zG6 a b0 u x w0;have Fe := Be.f;have Fa := Ba3.f;have Fb := Bb3.f;cases h1 : decide (cmpP u x < 0) with
   | false =>
    have HQ := Lib.hid (HF.out h1);clear HF HG2 HH;go_wp2
    go_roundw
    case rel => exact ⟨D ++ [((u, x), T)], R', v, L, hD2, HQ, So2, hB, HR3, Ba3, Bb3, hwx⟩
    case measure => exact HL3.out
   | true =>
    have HH := Lib.hid (HH.out h1);clear HF;go_wp2_with fail;refine (cm _).mono ?_;rintro e w4 ⟨rfl, hb⟩;clear Fe Fa Fb;replace Be := Be.ee hb;have Ba4 := Ba3.ee hb;have Bb4 := Bb3.ee hb;have So4 := So2.ee hb;have HR4 := HR3.ee hb;have hw4 := (upB hwx hb);have HL4 := Lib.hid (show w4.rangeLeft b (w.heap.size + 1 + 1 + 1) < wr.rangeLeft b (w.heap.size + 1 + 1 + 1) by rw [zA9 HR4, ← zA9 HR3]; exact HL3.out);clear hb So2 HR3 hwx HL3 Ba3 Bb3 cm;have Fe := Be.f;cases h2 : decide (meetR a b0 u x = 1) with
    | false =>
     have HQ := Lib.hid (HG2.out h2);have hm : (meetR a b0 u x == 1) = false := by simpa using h2
     clear HG2 HH;go_wp2
     go_roundw
     case rel => exact ⟨D ++ [((u, x), T)], R', v, L, hD2, HQ, So4, hB, HR4, Ba4, Bb4, hw4⟩
     case measure => exact HL4.out
    | true =>
     have HQ := Lib.hid (HH.out h2);have hm : (meetR a b0 u x == 1) = true := by simpa using h2
     have hwz := hw4.size;have hwy := Lib.hid (show w.heap.size + 3 ≤ w4.heap.size by have := Bb4.lt; have := So4.box.lt; omega);clear HG2 HH h2;have cp := zCi (w.heap.size + 1 + 1) v L ⟨u, x, 0⟩ hle hgk ⟨by show (0 : Int) ≤ 0; decide, by show (0 : Int) ≤ 2; decide⟩ w4 So4;go_wp2_with fail;refine cp.mono ?_;rintro e w5 ⟨k, v', rfl, hk5, So5, hf5, hv5⟩;have hg5 := hf5.grown;have HR5 := HR4.kept hg5 (fun e => So4.box.ne_map HR4.holds (Option.some.inj e).symm) (by simp);have Ba5 := Ba4.grown2 hg5 (fun k hk => by cases hk; omega);have Bb5 := Bb4.grown2 hg5 (fun k hk => by cases hk; omega);have hw5 := hf5.below (n := w.heap.size) (fun k hk => by have hk : k = w.heap.size + 1 + 1 := hk; omega) hw4.size;have HL5 := Lib.hid (show w5.rangeLeft b (w.heap.size + 1 + 1 + 1) < wr.rangeLeft b (w.heap.size + 1 + 1 + 1) by rw [zA9 HR5, ← zA9 HR4]; exact HL4.out);have HP := Lib.hid (HQ.out k);have hB5 := Lib.hid (show ∀ k, v'.ownBlock = some k → w.heap.size + 3 ≤ k from fun k hk => by
      have := hv5 k hk;have := hwy.out;omega)
     clear Fe cp HQ hf5 hg5 hwz;go_wp2
     go_roundw
     case rel => exact ⟨D ++ [((u, x), T)], R', v', _, hD2, HP, So5, hB5, HR5, Ba5, Bb5, hw4.trans hw5⟩
     case measure => exact HL5.out
end Go.Proofs.YtmobnmjjmafibaaGreat
namespace Go.Proofs.YtmobnmjjmafibaaGreat
open Go.RowKit
theorem zHv (p a b : Pt) : tch p a b = 0 ∨ tch p a b = 2 := by unfold tch; (repeat' split) <;> simp
theorem mx4_two {a b c d : Int} (ha : a = 0 ∨ a = 2) (hb : b = 0 ∨ b = 2) (hc : c = 0 ∨ c = 2) (hd : d = 0 ∨ d = 2) : mx4 a b c d ≠ 1 := by
 rcases ha with rfl | rfl <;> rcases hb with rfl | rfl <;> rcases hc with rfl | rfl <;> rcases hd with rfl | rfl <;> decide
theorem cross_one {a b c d : Pt} : meetR a b c d = 1 ↔ (vld a = true ∧ vld b = true ∧ vld c = true ∧ vld d = true) ∧ ((0 < det a b c ∧ det a b d < 0) ∨ (det a b c < 0 ∧ 0 < det a b d)) ∧ ((0 < det c d a ∧ det c d b < 0) ∨ (det c d a < 0 ∧ 0 < det c d b)) := by
 unfold meetR;cases va : vld a with
 | false => simp
 | true =>
  cases vb : vld b with
  | false => simp
  | true =>
   cases vc : vld c with
   | false => simp
   | true =>
    cases vd : vld d with
    | false => simp
    | true =>
     have zab : peqI a.x a.y b.x b.y = true → ∀ p, det a b p = 0 := fun h p => by
      rw [zBi.1 h]; unfold det; grind
     have zcd : peqI c.x c.y d.x d.y = true → ∀ p, det c d p = 0 := fun h p => by
      rw [zBi.1 h]; unfold det; grind
     rw [ori_v va vb vc, ori_v va vb vd, ori_v vc vd va, ori_v vc vd vb];have l1 : lap a b c d ≠ 1 := by unfold lap; split <;> decide
     have l2 := mx4_two (zHv a c d) (zHv b c d) (zHv c a b) (zHv d a b);have s1 := zAj (det a b c);have s2 := zAj (det a b d);have s3 := zAj (det c d a);have s4 := zAj (det c d b);simp only [Bool.true_eq_false, if_false, and_self, true_and];split
     ·rename_i h; have := zab h c; have := zab h d; simp; omega
     ·split
      ·rename_i h; have := zcd h a; have := zcd h b; simp; omega
      ·split
       ·rename_i h; simp only [l1, false_iff]; omega
       ·split
        ·rename_i h
         simp only [true_iff];rcases s1 with ⟨e1, _⟩ | ⟨e1, _⟩ | ⟨e1, _⟩ <;> rcases s2 with ⟨e2, _⟩ | ⟨e2, _⟩ | ⟨e2, _⟩ <;> rcases s3 with ⟨e3, _⟩ | ⟨e3, _⟩ | ⟨e3, _⟩ <;> rcases s4 with ⟨e4, _⟩ | ⟨e4, _⟩ | ⟨e4, _⟩ <;> rw [e1, e2, e3, e4] at h <;> first | omega | (simp at h)
        ·rename_i h
         simp only [l2, false_iff];rintro ⟨k1, k2⟩;apply h;rcases s1 with ⟨e1, _⟩ | ⟨e1, _⟩ | ⟨e1, _⟩ <;> rcases s2 with ⟨e2, _⟩ | ⟨e2, _⟩ | ⟨e2, _⟩ <;> rcases s3 with ⟨e3, _⟩ | ⟨e3, _⟩ | ⟨e3, _⟩ <;> rcases s4 with ⟨e4, _⟩ | ⟨e4, _⟩ | ⟨e4, _⟩ <;> rw [e1, e2, e3, e4] <;> first | omega | (simp)
theorem zIb {a b c d : Pt} (h : meetR a b c d = 1) : meetR a b d c = 1 := by
 rw [cross_one] at *;obtain ⟨⟨v1, v2, v3, v4⟩, h1, h2⟩ := h;have e1 := zC8 c d a;have e2 := zC8 c d b;exact ⟨⟨v1, v2, v4, v3⟩, by omega, by omega⟩
theorem rlg_cases (p q : Pt) : (rl p q = p ∧ rg p q = q) ∨ (rl p q = q ∧ rg p q = p) := by
 unfold rl rg; split
 ·exact .inl ⟨rfl, rfl⟩
 ·exact .inr ⟨rfl, rfl⟩
theorem meet_rlg {a b c d : Pt} (h : meetR a b c d = 1) : meetR a b (rl c d) (rg c d) = 1 := by
 rcases rlg_cases c d with ⟨e1, e2⟩ | ⟨e1, e2⟩
 ·rw [e1, e2]; exact h
 ·rw [e1, e2]; exact zIb h
theorem zIo {E : Es} {L : List Tri3} (g : Good E L) (p q : Pt) : ∃ L', Good (flipD E p q).2 L' ∧ L'.length = L.length := by
 cases h0 : getE E (p, q) with
 | none => rw [zBt (.inl h0)]; exact ⟨L, g, rfl⟩
 | some S =>
  cases h1 : getE E (q, p) with
  | none => rw [zBt (.inr h1)]; exact ⟨L, g, rfl⟩
  | some R =>
   rw [zDr h0 h1];split
   ·rename_i k
    obtain ⟨_, M, pM, g'⟩ := zDp g h0 h1 rfl rfl k.1 k.2.1 k.2.2.1 k.2.2.2;exact ⟨_, g', by rw [pM.length_eq]; rfl⟩
   ·exact ⟨L, g, rfl⟩
theorem fstep_len2 {E : Es} {L : List Tri3} (g : Good E L) (a b : Pt) (x : Wl) (Q : List Wl) : ∃ L', Good (fstep a b E x Q).1 L' ∧ L'.length = L.length := by
 cases h0 : getE E (x.A, x.B) with
 | none => rw [zCe (.inl h0)]; exact ⟨L, g, rfl⟩
 | some S =>
  cases h1 : getE E (x.B, x.A) with
  | none => rw [zCe (.inr h1)]; exact ⟨L, g, rfl⟩
  | some R =>
   rw [zEx h0 h1];split
   ·exact zIo g _ _
   ·split <;> exact zIo g _ _
theorem zH8 {a b : Pt} : ∀ (n : Nat) {E : Es} {L : List Tri3} {Q : List Wl}, Good E L → ∃ L', Good (forceR a b n E Q).1 L' ∧ L'.length = L.length
 | 0, _, L, _, g => ⟨L, g, rfl⟩
 | _ + 1, _, L, [], g => ⟨L, g, rfl⟩
 | n + 1, E, L, x :: Q, g => by
  obtain ⟨L1, g1, h1⟩ := fstep_len2 g a b x Q;obtain ⟨L2, g2, h2⟩ := zH8 n (Q := (fstep a b E x Q).2) g1;exact ⟨L2, g2, h2.trans h1⟩
theorem flipD_keep {W H : Int} {E : Es} {L : List Tri3} (hW : W < 16777216) (hH : H < 16777216) (g : Good E L) (t : Tiles W H L) {K : Pt → Pt → Prop} {p q : Pt} (hK : ¬ K p q ∧ ¬ K q p) :
    ((flipD E p q).1 ≠ 0 → (flipD E p q).2 = E) ∧ ∃ L', Good (flipD E p q).2 L' ∧ Tiles W H L' ∧ Kept K L L' := by
 cases h0 : getE E (p, q) with
 | none => rw [zBt (.inl h0)]; exact ⟨fun _ => rfl, L, g, t, Kept.refl _ _⟩
 | some S =>
  cases h1 : getE E (q, p) with
  | none => rw [zBt (.inr h1)]; exact ⟨fun _ => rfl, L, g, t, Kept.refl _ _⟩
  | some R =>
   rw [zDr h0 h1];split
   ·rename_i k
    refine ⟨fun h => absurd rfl h, ?_⟩;obtain ⟨_, ⟨cS, cR⟩, _, vp, vq, vc, vd⟩ := zEw g h0 h1;obtain ⟨_, M, pM, g'⟩ := zDp g h0 h1 rfl rfl k.1 k.2.1 k.2.2.1 k.2.2.2;have f : Flp K L S R M p q (apx S p q) (apx R p q) := ⟨pM, cS, cR, hK, by have := (zH1 vp vd vc).1 k.1; rw [zAl] at this; exact (by have e := zAl (apx S p q) p (apx R p q); omega), (zH1 vd vq vc).1 k.2.1⟩;have e : mk p (apx R p q) (apx S p q) = mk (apx S p q) p (apx R p q) := mk_cyc _ _ _;rw [e] at g' ⊢;exact ⟨_, g', f.tiles t hW hH, f.kept t hW hH⟩
   ·exact ⟨fun _ => rfl, L, g, t, Kept.refl _ _⟩
theorem zBz {W H : Int} (hW : W < 16777216) (hH : H < 16777216) {a b : Pt} : ∀ (n : Nat) {E : Es} {L : List Tri3} {Q : List Wl}, Good E L → Tiles W H L → (∀ x ∈ Q, meetR a b x.A x.B = 1) → ∃ L', Good (forceR a b n E Q).1 L' ∧ Tiles W H L' ∧ Kept (fun x y => meetR a b x y ≠ 1) L L'
 | 0, E, L, Q, g, t, _ => ⟨L, g, t, Kept.refl _ _⟩
 | n + 1, E, L, [], g, t, _ => ⟨L, g, t, Kept.refl _ _⟩
 | n + 1, E, L, x :: Q, g, t, hq => by
  show ∃ L', Good (forceR a b n (fstep a b E x Q).1 (fstep a b E x Q).2).1 L' ∧ _;have hx := hq x (by simp);have hQ : ∀ y ∈ Q, meetR a b y.A y.B = 1 := fun y hy => hq y (List.mem_cons_of_mem _ hy);cases h0 : getE E (x.A, x.B) with
  | none => rw [zCe (.inl h0)]; exact zBz hW hH n g t hQ
  | some S =>
   cases h1 : getE E (x.B, x.A) with
   | none => rw [zCe (.inr h1)]; exact zBz hW hH n g t hQ
   | some R =>
    obtain ⟨_, L1, g1, t1, k1⟩ := flipD_keep (K := fun x y => meetR a b x y ≠ 1) hW hH g t (p := x.A) (q := x.B) ⟨fun k => k hx, fun k => k (zIb hx)⟩;rw [zEx h0 h1];split
    ·obtain ⟨L2, g2, t2, k2⟩ := zBz hW hH n g1 t1 (Q := Q ++ [x]) (fun y hy => by
       rcases List.mem_append.1 hy with hy | hy
       ·exact hQ y hy
       ·rw [List.mem_singleton.1 hy]; exact hx)
     exact ⟨L2, g2, t2, k1.trans k2⟩
    ·split
     ·rename_i hm
      obtain ⟨L2, g2, t2, k2⟩ := zBz hW hH n g1 t1 (Q := Q ++ [⟨rl (apx S x.A x.B) (apx R x.A x.B), rg (apx S x.A x.B) (apx R x.A x.B), 0⟩]) (fun y hy => by
       rcases List.mem_append.1 hy with hy | hy
       ·exact hQ y hy
       ·rw [List.mem_singleton.1 hy]; exact meet_rlg hm)
      exact ⟨L2, g2, t2, k1.trans k2⟩
     ·obtain ⟨L2, g2, t2, k2⟩ := zBz hW hH n g1 t1 (Q := Q) hQ;exact ⟨L2, g2, t2, k1.trans k2⟩
end Go.Proofs.YtmobnmjjmafibaaGreat
namespace Go.Proofs.YtmobnmjjmafibaaGreat
open Go.RowKit Go.Sort
attribute [local go_sem] rOper rAt rUpon cell_set sg_i64 sg_u64 alloc_cell alloc_frozen
attribute [local go_sem 10000] pt_eql pt_neq wal_eql wal_neq
attribute [local irreducible] rWalk
def hitD (a b : Pt) (x : Wl) : Bool := decide (meetR a b x.A x.B ≠ 0)
def clashD (L : List Wl) (a b : Pt) : Int := if mkOk a b 1 = true then (if kindD L a b = 0 then (if L.any (hitD a b) = true then 7 else 0) else 5) else 2
theorem any_next {p : Wl → Bool} {L : List Wl} {k : Nat} (hk : k < L.length) (h0 : (L.take k).any p = false) (h1 : p L[k] = false) : (L.take (k + 1)).any p = false := by
 rw [List.take_succ_eq_append_getElem hk, List.any_append, h0]; simp [h1]
theorem any_at {p : Wl → Bool} {L : List Wl} {k : Nat} (hk : k < L.length) (h1 : p L[k] = true) : L.any p = true := List.any_eq_true.2 ⟨_, List.getElem_mem hk, h1⟩
theorem any_all {p : Wl → Bool} {L : List Wl} (h0 : (L.take L.length).any p = false) : L.any p = false := by rwa [List.take_of_length_le (Nat.le_refl _)] at h0
theorem rclash_0 (db : Nat) (L : List Wl) (a b : Pt) (ho : mkOk a b 1 = false) (w : World) :
    Calls Tryz.prog 133 #[.pointer (some ⟨db, 0, none⟩), .agg #[.int .i64 a.x, .int .i64 a.y], .agg #[.int .i64 b.x, .int .i64 b.y]] w fun e w' => e = .returned (.int .i64 (clashD L a b)) ∧ Below w.heap.size w w' := by
 have cm := zE7 a b 1;rw [ho] at cm;generalize mkW a b 1 = W0 at cm
 have HV : Hid (clashD L a b = 2) := Lib.hid (by unfold clashD; rw [ho]; rfl);clear ho
 go_enter Tryz.func133, Tryz.ntmps133
 go_wp2_with fail;refine zA1 fun W1 hW => ?_;obtain ⟨Ba, Bb, hw⟩ := N2 hW;clear hW;refine (cm _).mono ?_;rintro e w2 ⟨rfl, hb⟩;obtain ⟨Ba, Bb, hw, F_ab⟩ := X2 Ba Bb hw hb;clear hb;go_wp2
 go_ret
 exact ⟨zAq HV.out.symm, by have hl := hw.size; go_grown⟩
theorem rclash_1 (db : Nat) (a0 : Option Addr) (c n : Nat) (L : List Wl) (a b : Pt) (ho : mkOk a b 1 = true) (hk : (kindD L a b != 0) = true) (w : World) (D : DocRd w db a0 c n L) :
    Calls Tryz.prog 133 #[.pointer (some ⟨db, 0, none⟩), .agg #[.int .i64 a.x, .int .i64 a.y], .agg #[.int .i64 b.x, .int .i64 b.y]] w fun e w' => e = .returned (.int .i64 (clashD L a b)) ∧ Below w.heap.size w w' := by
 have cm := zE7 a b 1;rw [ho] at cm;generalize mkW a b 1 = W0 at cm
 have ck : ∀ W, Below w.heap.size w W → Calls Tryz.prog 140 #[.pointer (some ⟨db, 0, none⟩), .agg #[.int .i64 a.x, .int .i64 a.y], .agg #[.int .i64 b.x, .int .i64 b.y]] W fun e w' => e = .returned (.int .i64 (kindD L a b)) ∧ Below W.heap.size W w' := fun W hW => zD2 db a0 c n L a b W (D.ee hW);have HV : Hid (clashD L a b = 5) := Lib.hid (by unfold clashD; rw [if_pos ho, if_neg (by simpa using hk)]);generalize kindD L a b = kd at *
 clear ho D
 go_enter Tryz.func133, Tryz.ntmps133
 go_wp2_with fail;refine zA1 fun W1 hW => ?_;obtain ⟨Ba, Bb, hw⟩ := N2 hW;clear hW;refine (cm _).mono ?_;rintro e w2 ⟨rfl, hb⟩;obtain ⟨Ba, Bb, hw, F_ab⟩ := X2 Ba Bb hw hb;clear hb;go_wp2_with fail;refine zA1 fun W3 hW => ?_;replace Ba : Box W3 (w.heap.size) [.int .i64 a.x, .int .i64 a.y] 30 := by rw [hW]; exact Ba.old _
 replace Bb : Box W3 (w.heap.size + 1) [.int .i64 b.x, .int .i64 b.y] 30 := by rw [hW]; exact Bb.old _
 replace hw : Below w.heap.size w W3 := by have hl := hw.size; rw [hW]; go_grown
 clear hW;refine (ck _ hw).mono ?_;rintro e w4 ⟨rfl, hb⟩;clear F_ab;obtain ⟨Ba, Bb, hw, F_ab⟩ := X2 Ba Bb hw hb;clear hb;go_wp2
 go_ret
 exact ⟨zAq HV.out.symm, by have hl := hw.size; go_grown⟩
def clashD2 (L : List Wl) (a b : Pt) : Int := if L.any (hitD a b) = true then 7 else 0
theorem rclash_2 (db : Nat) (a0 : Option Addr) (c n : Nat) (L : List Wl) (a b : Pt) (ho : mkOk a b 1 = true) (hk : (kindD L a b != 0) = false) (w : World) (D : DocRd w db a0 c n L) :
    Calls Tryz.prog 133 #[.pointer (some ⟨db, 0, none⟩), .agg #[.int .i64 a.x, .int .i64 a.y], .agg #[.int .i64 b.x, .int .i64 b.y]] w fun e w' => e = .returned (.int .i64 (clashD L a b)) ∧ Below w.heap.size w w' := by
 have cm := zE7 a b 1;rw [ho] at cm;generalize mkW a b 1 = W0 at cm
 have ck : ∀ W, Below w.heap.size w W → Calls Tryz.prog 140 #[.pointer (some ⟨db, 0, none⟩), .agg #[.int .i64 a.x, .int .i64 a.y], .agg #[.int .i64 b.x, .int .i64 b.y]] W fun e w' => e = .returned (.int .i64 (kindD L a b)) ∧ Below W.heap.size W w' := fun W hW => zD2 db a0 c n L a b W (D.ee hW);have HV : Hid (clashD L a b = clashD2 L a b) := Lib.hid (by unfold clashD; rw [if_pos ho, if_pos (by simpa using hk)]; rfl);have hdb := D.box.lt;have HM := Lib.hid D.len;have hn : n ≤ 1000000 := D.len ▸ D.le;have HD := Lib.hid D;generalize kindD L a b = kd at *
 clear ho D
 go_enter Tryz.func133, Tryz.ntmps133
 go_wp2_with fail;refine zA1 fun W1 hW => ?_;obtain ⟨Ba, Bb, hw⟩ := N2 hW;clear hW;refine (cm _).mono ?_;rintro e w2 ⟨rfl, hb⟩;obtain ⟨Ba, Bb, hw, F_ab⟩ := X2 Ba Bb hw hb;clear hb;go_wp2_with fail;refine zA1 fun W3 hW => ?_;replace Ba : Box W3 (w.heap.size) [.int .i64 a.x, .int .i64 a.y] 30 := by rw [hW]; exact Ba.old _
 replace Bb : Box W3 (w.heap.size + 1) [.int .i64 b.x, .int .i64 b.y] 30 := by rw [hW]; exact Bb.old _
 replace hw : Below w.heap.size w W3 := by have hl := hw.size; rw [hW]; go_grown
 clear hW;refine (ck _ hw).mono ?_;rintro e w4 ⟨rfl, hb⟩;clear F_ab;obtain ⟨Ba, Bb, hw, F_ab⟩ := X2 Ba Bb hw hb;clear hb;go_wp2_with fail;clear F_ab;clear ck cm
 go_loopw [9] (fun vi wr => ∃ k : Nat, k ≤ n ∧ vi = .int .i64 k ∧ Hid ((L.take k).any (hitD a b) = false) ∧ Below w.heap.size w wr ∧ Box wr w.heap.size [.int .i64 a.x, .int .i64 a.y] 30 ∧ Box wr (w.heap.size + 1) [.int .i64 b.x, .int .i64 b.y] 30) (fun vi _ => n - (intOf vi).toNat)
 case atStart => exact ⟨0, Nat.zero_le _, rfl, Lib.hid rfl, hw, Ba, Bb⟩
 case round =>
  clear Ba Bb hw;obtain ⟨k, hk, rfl, HF, hwr, BA, BB⟩ := hrel;have BD := (HD.out.ee hwr).box;by_cases hlt : k < n
  ·have hkL : k < L.length := by rw [HM.out]; exact hlt
   obtain ⟨ad, A, ea, eA, hA⟩ := (HD.out.ee hwr).row.five (j := k) hkL;have HX : Hid (L[k] = L[k]) := Lib.hid rfl;generalize hX : L[k] = X at hA HX
   clear HX;have HX := Lib.hid hX;clear hX;have c5 := zG6 a b X.A X.B;have HI : Hid (hitD a b X = decide (meetR a b X.A X.B ≠ 0)) := Lib.hid rfl;generalize meetR a b X.A X.B = z at c5 HI
   obtain ⟨s0, s1, s2, s3, s4⟩ := hA.cells;have g_ABD := J3 BA.cells BB.cells BD.cells;obtain ⟨d0, d1, d2, d3⟩ := BD.f;have q0 : (k : Int) < (n : Int) := by omega
   subst ea;cases ez : (z != 0) with
   | true =>
    have HE : Hid (L.any (hitD a b) = true) := Lib.hid (any_at hkL (by rw [HX.out, HI.out]; simpa using ez));clear hA HX HI;go_wp2_with fail;refine (wp_region_tail 19 (by kernel_rfl) (by kernel_rfl) (C := fun w' => ∃ p : Regrown, w' = grow (redrawn wr p.d) p.os) rgB ?_);simp only [tK1, tK0, dP1, dP0];repeat (first | (refine zA0 (Eq.refl false) ?_; simp only [Act.put, sT2, sT1, sT0]) | (refine rWalk_step (fun K hK => ?_); go_simp; first | (refine hK _ ?_; clear hK K) | (apply Exists.intro; refine ⟨fun _ => ?_, hK _ ?_⟩; (first | with_reducible exact toExt c5 _); clear hK K)))
    refine rWalk_nil ?_;intro w2 hb;have hw2 := (upB hwr hb);clear s0 s1 s2 s3 s4 g_ABD hb d0 d1 d2 d3;go_wp2
    go_ret
    exact ⟨zAq (by rw [HV.out]; unfold clashD2; rw [HE.out]; rfl), hw2⟩
   | false =>
    have HE : Hid ((L.take (k + 1)).any (hitD a b) = false) := Lib.hid (any_next hkL HF.out (by rw [HX.out, HI.out]; simpa using ez));clear hA HX HI;go_wp2_with fail;refine (wp_region_tail 19 (by kernel_rfl) (by kernel_rfl) (C := fun w' => ∃ p : Regrown, w' = grow (redrawn wr p.d) p.os) rgB ?_);simp only [tK1, tK0, dP1, dP0];repeat (first | (refine zA0 (Eq.refl false) ?_; simp only [Act.put, sT2, sT1, sT0]) | (refine rWalk_step (fun K hK => ?_); go_simp; first | (refine hK _ ?_; clear hK K) | (apply Exists.intro; refine ⟨fun _ => ?_, hK _ ?_⟩; (first | with_reducible exact toExt c5 _); clear hK K)))
    refine rWalk_nil ?_;intro w2 hb;have hw2 := (upB hwr hb);have BA2 := BA.ee hb;have BB2 := BB.ee hb;clear s0 s1 s2 s3 s4 g_ABD hb d0 d1 d2 d3;go_wp2
    go_roundw
    case rel => exact ⟨k + 1, hlt, by go_num, HE, hw2, BA2, BB2⟩
    case measure => simp [intOf]; omega
  ·obtain rfl : k = n := by omega
   have HE : Hid (L.any (hitD a b) = false) := Lib.hid (any_all (by rw [HM.out]; exact HF.out));obtain ⟨d0, d1, d2, d3⟩ := BD.f;go_wp2
   go_ret
   exact ⟨zAq (by rw [HV.out]; unfold clashD2; rw [HE.out]; rfl), hwr⟩
theorem rclash_any (db : Nat) (a0 : Option Addr) (c n : Nat) (L : List Wl) (a b : Pt) (w : World) (D : DocRd w db a0 c n L) :
    Calls Tryz.prog 133 #[.pointer (some ⟨db, 0, none⟩), .agg #[.int .i64 a.x, .int .i64 a.y], .agg #[.int .i64 b.x, .int .i64 b.y]] w fun e w' => e = .returned (.int .i64 (clashD L a b)) ∧ Below w.heap.size w w' := by
 cases ho : mkOk a b 1 with
 | false => exact rclash_0 db L a b ho w
 | true =>
  cases hk : (kindD L a b != 0) with
  | true => exact rclash_1 db a0 c n L a b ho hk w D
  | false => exact rclash_2 db a0 c n L a b ho hk w D
end Go.Proofs.YtmobnmjjmafibaaGreat
namespace Go.Proofs.YtmobnmjjmafibaaGreat
open Go.RowKit Go.Sort
attribute [local go_sem] rOper rAt rUpon cell_set sg_i64 sg_u64 alloc_cell alloc_frozen
attribute [local go_sem 10000] pt_eql pt_neq tri_eql
attribute [local irreducible] rWalk
def addsW (k : Int) : List Pt → Es → List Wl → Es → List Wl → Prop
 | x :: y :: M, E, D, E2, D2 => ∃ Q0 j, Q0.Perm (crossD x y E) ∧ PutAt D (mkW x y k) j ∧ addsW k (y :: M) (forceR x y capN E Q0).1 (insW D (mkW x y k) j) E2 D2
 | _, E, D, E2, D2 => E2 = E ∧ D2 = D
def calm (D : List Wl) (M : List Pt) : Prop := ∀ (i : Nat) (h : i + 1 < M.length), clashD D M[i] M[i + 1] = 0
def AddWR (E : Es) (D : List Wl) (p q : Pt) (k r : Int) (E2 : Es) (D2 : List Wl) : Prop :=
 (r ≠ 0 ∧ E2 = E ∧ D2 = D) ∨ (r = 0 ∧ (k = 1 ∨ k = 2) ∧ p ≠ q ∧ vld p = true ∧ vld q = true ∧ starE p E ≠ [] ∧ starE q E ≠ [] ∧ ∃ M, PartsL E p q M ∧ calm D M ∧ addsW k M E D E2 D2)
def AddWPost (b db : Nat) (E : Es) (D : List Wl) (p q : Pt) (k : Int) (w : World) (e : Ending) (w' : World) : Prop :=
 ∃ r E2 D2 v2, e = .returned (.int .i64 r) ∧ AddWR E D p q k r E2 D2 ∧ HoldsMap eW eT okW w' b E2 ∧ DocAt w' db v2 D2 ∧ Frm w w' (fun x => x = b ∨ x = db)
theorem raddw_b0_1 (mb b db : Nat) (E : Es) (p q : Pt) (k : Int) (h1 : (k != 1) = false) (e0 : peqI p.x p.y q.x q.y = true) (w : World) (Bm : Box w mb [.map (some b)] 41) (Hm : HoldsMap eW eT okW w b E) :
    Calls Tryz.prog 99 #[.pointer (some ⟨mb, 0, none⟩), .pointer (some ⟨db, 0, none⟩), .agg #[.int .i64 p.x, .int .i64 p.y], .agg #[.int .i64 q.x, .int .i64 q.y], .int .i64 k] w fun e w' => e = .returned (.int .i64 2) ∧ Below w.heap.size w w' := by
 have cp := fun w0 B1 H1 => rparts_b0 mb b E p q e0 w0 B1 H1;clear e0
 go_enter Tryz.func99, Tryz.ntmps99
 go_wp2_with fail;refine zA1 fun W1 hW => ?_;obtain ⟨Bp, Bq, hw⟩ := N2 hW;clear hW;refine (cp _ (Bm.ee hw) (Hm.ee hw)).mono ?_;rintro e w2 ⟨rfl, hb⟩;obtain ⟨Bp, Bq, hw, F_pq⟩ := X2 Bp Bq hw hb;clear hb;go_wp2
 go_ret
 exact ⟨rfl, by have hl := hw.size; go_grown⟩
theorem raddw_b1_1 (mb b db : Nat) (E : Es) (p q : Pt) (k : Int) (h1 : (k != 1) = false) (e0 : peqI p.x p.y q.x q.y = false) (e1 : vld p = false) (w : World) (Bm : Box w mb [.map (some b)] 41) (Hm : HoldsMap eW eT okW w b E) :
    Calls Tryz.prog 99 #[.pointer (some ⟨mb, 0, none⟩), .pointer (some ⟨db, 0, none⟩), .agg #[.int .i64 p.x, .int .i64 p.y], .agg #[.int .i64 q.x, .int .i64 q.y], .int .i64 k] w fun e w' => e = .returned (.int .i64 2) ∧ Below w.heap.size w w' := by
 have cp := fun w0 B1 H1 => rparts_b1 mb b E p q e0 e1 w0 B1 H1;clear e0
 go_enter Tryz.func99, Tryz.ntmps99
 go_wp2_with fail;refine zA1 fun W1 hW => ?_;obtain ⟨Bp, Bq, hw⟩ := N2 hW;clear hW;refine (cp _ (Bm.ee hw) (Hm.ee hw)).mono ?_;rintro e w2 ⟨rfl, hb⟩;obtain ⟨Bp, Bq, hw, F_pq⟩ := X2 Bp Bq hw hb;clear hb;go_wp2
 go_ret
 exact ⟨rfl, by have hl := hw.size; go_grown⟩
theorem raddw_b2_1 (mb b db : Nat) (E : Es) (p q : Pt) (k : Int) (h1 : (k != 1) = false) (e0 : peqI p.x p.y q.x q.y = false) (e1 : vld p = true) (e2 : vld q = false) (w : World) (Bm : Box w mb [.map (some b)] 41) (Hm : HoldsMap eW eT okW w b E) :
    Calls Tryz.prog 99 #[.pointer (some ⟨mb, 0, none⟩), .pointer (some ⟨db, 0, none⟩), .agg #[.int .i64 p.x, .int .i64 p.y], .agg #[.int .i64 q.x, .int .i64 q.y], .int .i64 k] w fun e w' => e = .returned (.int .i64 2) ∧ Below w.heap.size w w' := by
 have cp := fun w0 B1 H1 => rparts_b2 mb b E p q e0 e1 e2 w0 B1 H1;clear e0
 go_enter Tryz.func99, Tryz.ntmps99
 go_wp2_with fail;refine zA1 fun W1 hW => ?_;obtain ⟨Bp, Bq, hw⟩ := N2 hW;clear hW;refine (cp _ (Bm.ee hw) (Hm.ee hw)).mono ?_;rintro e w2 ⟨rfl, hb⟩;obtain ⟨Bp, Bq, hw, F_pq⟩ := X2 Bp Bq hw hb;clear hb;go_wp2
 go_ret
 exact ⟨rfl, by have hl := hw.size; go_grown⟩
theorem raddw_n1_1 (mb b db : Nat) (E : Es) (p q : Pt) (k : Int) (h1 : (k != 1) = false) (hE : E.length ≤ 500000) (e0 : peqI p.x p.y q.x q.y = false) (e1 : vld p = true) (e2 : vld q = true) (s1 : starE p E = []) (w : World) (Bm : Box w mb [.map (some b)] 41) (Hm : HoldsMap eW eT okW w b E) :
    Calls Tryz.prog 99 #[.pointer (some ⟨mb, 0, none⟩), .pointer (some ⟨db, 0, none⟩), .agg #[.int .i64 p.x, .int .i64 p.y], .agg #[.int .i64 q.x, .int .i64 q.y], .int .i64 k] w fun e w' => e = .returned (.int .i64 16) ∧ Below w.heap.size w w' := by
 have cp := fun w0 B1 H1 => rparts_n1 mb b E p q hE e0 e1 e2 s1 w0 B1 H1;clear e0
 go_enter Tryz.func99, Tryz.ntmps99
 go_wp2_with fail;refine zA1 fun W1 hW => ?_;obtain ⟨Bp, Bq, hw⟩ := N2 hW;clear hW;refine (cp _ (Bm.ee hw) (Hm.ee hw)).mono ?_;rintro e w2 ⟨rfl, hb⟩;obtain ⟨Bp, Bq, hw, F_pq⟩ := X2 Bp Bq hw hb;clear hb;go_wp2
 go_ret
 exact ⟨rfl, by have hl := hw.size; go_grown⟩
theorem raddw_n2_1 (mb b db : Nat) (E : Es) (p q : Pt) (k : Int) (h1 : (k != 1) = false) (hE : E.length ≤ 500000) (e0 : peqI p.x p.y q.x q.y = false) (e1 : vld p = true) (e2 : vld q = true) (s1 : starE p E ≠ []) (s2 : starE q E = []) (w : World) (Bm : Box w mb [.map (some b)] 41) (Hm : HoldsMap eW eT okW w b E) :
    Calls Tryz.prog 99 #[.pointer (some ⟨mb, 0, none⟩), .pointer (some ⟨db, 0, none⟩), .agg #[.int .i64 p.x, .int .i64 p.y], .agg #[.int .i64 q.x, .int .i64 q.y], .int .i64 k] w fun e w' => e = .returned (.int .i64 16) ∧ Below w.heap.size w w' := by
 have cp := fun w0 B1 H1 => rparts_n2 mb b E p q hE e0 e1 e2 s1 s2 w0 B1 H1;clear e0
 go_enter Tryz.func99, Tryz.ntmps99
 go_wp2_with fail;refine zA1 fun W1 hW => ?_;obtain ⟨Bp, Bq, hw⟩ := N2 hW;clear hW;refine (cp _ (Bm.ee hw) (Hm.ee hw)).mono ?_;rintro e w2 ⟨rfl, hb⟩;obtain ⟨Bp, Bq, hw, F_pq⟩ := X2 Bp Bq hw hb;clear hb;go_wp2
 go_ret
 exact ⟨rfl, by have hl := hw.size; go_grown⟩
end Go.Proofs.YtmobnmjjmafibaaGreat
