/- Put together: CdtU, MesS, FenP, MfA, MesR, MfB, MesY, Float, Tail, Once, MesZ. -/
import Derived.Test.YtjkfakaehjmnbaaGreatRows
import Derived.Test.YtjkfakaehjmnbaaGreatPmf17
import Derived.Test.YtjkfakaehjmnbaaGreatPmf15
import Derived.Test.YtjkfakaehjmnbaaGreatPmf14
import Derived.Test.YtjkfakaehjmnbaaGreatPmf6
import Derived.Test.YtjkfakaehjmnbaaGreatPmf1
import Derived.WalkKit
import Derived.WalkSpells
import Derived.WalkLawsBesides
import Derived.Laws.Externs
import Derived.Deep.QuietTactic
import Derived.BigQuiet
import Derived.Lib.Hide
import Derived.Handy
import Derived.LoopN
import Derived.RegionTactic
import Derived.Test.YtjkfakaehjmnbaaGreatPmf12
import Derived.Test.YtjkfakaehjmnbaaGreatPmf5
import Derived.Test.YtjkfakaehjmnbaaGreatPmf11
import Derived.OwnWalk
import Derived.Maps.RangeWalk
import Derived.Test.YtjkfakaehjmnbaaGreatPmf13
import Derived.Test.YtjkfakaehjmnbaaGreatPmf3
import Derived.Test.YtjkfakaehjmnbaaGreatPmf10
import Derived.Carry
import Derived.Test.YtjkfakaehjmnbaaGreatPmf16
import Derived.Test.YtjkfakaehjmnbaaGreatPmf7
import Derived.Test.YtjkfakaehjmnbaaGreatPmf0
set_option maxRecDepth 100000
set_option maxHeartbeats 8000000
namespace Go.Proofs.YtjkfakaehjmnbaaGreat
open Go.RowKit
def flipD (E : Es) (p q : Pt) : Int × Es :=
 match getE E (p, q), getE E (q, p) with
 | some S, some R =>
  if 0 < ori p (apx R p q) (apx S p q) ∧ 0 < ori (apx R p q) q (apx S p q) ∧ getE E (apx R p q, apx S p q) = none ∧ getE E (apx S p q, apx R p q) = none
  then (0, flipE E S R (mk p (apx R p q) (apx S p q)) (mk (apx R p q) q (apx S p q))) else (2, E)
 | _, _ => (16, E)
theorem zFl {E : Es} {p q : Pt} (h : getE E (p, q) = none ∨ getE E (q, p) = none) : flipD E p q = (16, E) := by
 unfold flipD;rcases h with h | h
 ·rw [h]
 ·rw [h]; cases getE E (p, q) <;> rfl
theorem zHl {E : Es} {p q : Pt} {S R : Tri3} (h0 : getE E (p, q) = some S) (h1 : getE E (q, p) = some R) : flipD E p q = if 0 < ori p (apx R p q) (apx S p q) ∧ 0 < ori (apx R p q) q (apx S p q) ∧ getE E (apx R p q, apx S p q) = none ∧ getE E (apx S p q, apx R p q) = none then (0, flipE E S R (mk p (apx R p q) (apx S p q)) (mk (apx R p q) q (apx S p q))) else (2, E) := by
 unfold flipD; rw [h0, h1]
theorem zKf {T : Tri3} (h : valT T = true) : 0 < det T.A T.B T.C ∧ vld T.A = true ∧ vld T.B = true ∧ vld T.C = true := by
 obtain ⟨va, vb, vc, hD⟩ := zGg h;exact ⟨hD, va, vb, vc⟩
theorem zGy {E : Es} {L : List Tri3} (g : Good E L) {p q : Pt} {S R : Tri3} (h0 : getE E (p, q) = some S) (h1 : getE E (q, p) = some R) :
    (S ∈ L ∧ R ∈ L) ∧ (Cyc S p q (apx S p q) ∧ Cyc R q p (apx R p q)) ∧ (0 < det p q (apx S p q) ∧ 0 < det q p (apx R p q)) ∧ (vld p = true ∧ vld q = true ∧ vld (apx S p q) = true ∧ vld (apx R p q) = true) := by
 obtain ⟨mS, wS⟩ := g.get.1 h0;obtain ⟨mR, wR⟩ := g.get.1 h1;obtain ⟨c, cS⟩ := zDb wS;obtain ⟨d, cR⟩ := zDb wR;obtain ⟨pS, v1, v2, v3⟩ := zKf (g.val S mS);obtain ⟨pR, v4, v5, v6⟩ := zKf (g.val R mR);have p1 : 0 < det p q c := by rw [cS.det]; exact pS
 have p2 : 0 < det q p d := by rw [cR.det]; exact pR
 obtain ⟨n1, n2, n3⟩ := zAj p1;obtain ⟨m1, m2, m3⟩ := zAj p2;have e1 : apx S p q = c := (zGe cS n1 n2 n3).1;have e2 : apx R p q = d := (zGe cR m1 m2 m3).2;rw [e1, e2];have vv : ∀ {T : Tri3} {a b c : Pt}, Cyc T a b c → vld T.A = true → vld T.B = true → vld T.C = true → vld a = true ∧ vld b = true ∧ vld c = true := by
  intro T a b c h x y z;rcases h with ⟨rfl, rfl, rfl⟩ | ⟨rfl, rfl, rfl⟩ | ⟨rfl, rfl, rfl⟩
  ·exact ⟨x, y, z⟩
  ·exact ⟨y, z, x⟩
  ·exact ⟨z, x, y⟩
 obtain ⟨k1, k2, k3⟩ := vv cS v1 v2 v3;obtain ⟨_, _, k4⟩ := vv cR v4 v5 v6;exact ⟨⟨mS, mR⟩, ⟨cS, cR⟩, ⟨p1, p2⟩, k1, k2, k3, k4⟩
theorem zFb {a b c : Pt} (va : vld a = true) (vb : vld b = true) (vc : vld c = true) : 0 < ori a b c ↔ 0 < det a b c := by
 rw [ori_v va vb vc];have := zAa (det a b c);omega
theorem zHj {E : Es} {L : List Tri3} (g : Good E L) {p q : Pt} {S R : Tri3} {C D : Pt} (h0 : getE E (p, q) = some S) (h1 : getE E (q, p) = some R) (hC : apx S p q = C) (hD : apx R p q = D) (o1 : 0 < ori p D C) (o2 : 0 < ori D q C) (he : getE E (D, C) = none) (hf : getE E (C, D) = none) :
    Flips E p q S R (mk p D C) (mk D q C) C D ∧ ∃ M, L.Perm (S :: R :: M) ∧ Good (flipE E S R (mk p D C) (mk D q C)) (mk p D C :: mk D q C :: M) := by
 obtain ⟨⟨mS, mR⟩, ⟨cS, cR⟩, ⟨p1, p2⟩, vp, vq, vc, vd⟩ := zGy g h0 h1;rw [hC] at cS p1 vc;rw [hD] at cR p2 vd;have d1 := (zFb vp vd vc).1 o1;have d2 := (zFb vd vq vc).1 o2;obtain ⟨n1, n2, n3⟩ := zAj p1;obtain ⟨m1, m2, m3⟩ := zAj p2;obtain ⟨x1, x2, x3⟩ := zAj d1;obtain ⟨y1, y2, y3⟩ := zAj d2;have hne : S ≠ R := by
  rintro rfl;have := cS.ways.mem_iff.1 cR.way;simp only [List.mem_cons, Prod.mk.injEq, List.not_mem_nil, or_false] at this;rcases this with ⟨k, _⟩ | ⟨_, k⟩ | ⟨k, _⟩
  ·exact n1 k.symm
  ·exact n3 k.symm
  ·exact n2 k
 obtain ⟨M, hM⟩ := zDm mS mR hne;have nd := (zB6 hM).nodup_iff.1 g.once;rw [List.flatMap_cons, List.flatMap_cons, List.nodup_append] at nd;obtain ⟨_, nd2, nd1⟩ := nd;rw [List.nodup_append] at nd2;obtain ⟨_, _, nd2⟩ := nd2;have inM : ∀ w, w ∈ M.flatMap ways → w ∉ ways S ∧ w ∉ ways R ∧ w ∈ L.flatMap ways := fun w hw =>
  ⟨fun k => nd1 w k w (List.mem_append_right _ hw) rfl, fun k => nd2 w k w hw rfl, (zB6 hM).mem_iff.2 (by rw [List.flatMap_cons, List.flatMap_cons]; simp [hw])⟩
 obtain ⟨cU, vU⟩ := zB2 vp vd vc d1;obtain ⟨cV, vV⟩ := zB2 vd vq vc d2;have a1 := (Good.take (E := E) (T := S) (M := R :: M) (g.order hM)).2;have a2 := (Good.take (E := takeT E S) (T := R) (M := M) a1).2;obtain ⟨f1, g1⟩ := Good.put (T := mk p D C) a2 vU (fun w hw k => by
  obtain ⟨k1, k2, k3⟩ := inM w k;have := cU.ways.mem_iff.1 hw;simp only [List.mem_cons, List.not_mem_nil, or_false] at this;rcases this with rfl | rfl | rfl
  ·exact k2 cR.turn.way
  ·exact g.get_none.1 he k3
  ·exact k1 cS.turn.turn.way)
 obtain ⟨f2, g2⟩ := Good.put (T := mk D q C) g1 vV (fun w hw k => by
  have h := cV.ways.mem_iff.1 hw;simp only [List.mem_cons, List.not_mem_nil, or_false] at h;rw [List.flatMap_cons, List.mem_append] at k;rcases k with k | k
  ·have k := cU.ways.mem_iff.1 k;simp only [List.mem_cons, List.not_mem_nil, or_false] at k;rcases h with rfl | rfl | rfl
   ·simp only [Prod.mk.injEq] at k;rcases k with ⟨k, _⟩ | ⟨_, k⟩ | ⟨k, _⟩
    ·exact x1 k.symm
    ·exact y2 k
    ·exact x2 k
   ·simp only [Prod.mk.injEq] at k;rcases k with ⟨_, k⟩ | ⟨k, _⟩ | ⟨_, k⟩
    ·exact x2 k.symm
    ·exact y1 k.symm
    ·exact x3 k
   ·simp only [Prod.mk.injEq] at k;rcases k with ⟨k, _⟩ | ⟨k, _⟩ | ⟨_, k⟩
    ·exact x3 k
    ·exact x2 k.symm
    ·exact x1 k.symm
  ·obtain ⟨k1, k2, k3⟩ := inM w k;rcases h with rfl | rfl | rfl
   ·exact k2 cR.turn.turn.way
   ·exact k1 cS.turn.way
   ·exact g.get_none.1 hf k3)
 refine ⟨⟨h0, h1, hC, hD, decide_eq_false (by omega), decide_eq_false (by omega), rfl, rfl, he, hf, ⟨zC5 vc, zC5 vd⟩, zB1 (g.val _ mS), zB1 (g.val _ mR), zB1 vU, zB1 vV, zBz f1, zBz f2⟩, M, hM, g2.order (List.Perm.swap _ _ _)⟩
theorem zFk {E : Es} {L : List Tri3} (g : Good E L) {p q : Pt} {S R O : Tri3} {C D : Pt} (h0 : getE E (p, q) = some S) (h1 : getE E (q, p) = some R) (hC : apx S p q = C) (hD : apx R p q = D) (hdc : D ≠ C) (ho : (D, C) ∈ ways O ∨ (C, D) ∈ ways O) : teq O S = false ∧ teq O R = false := by
 obtain ⟨_, ⟨cS, cR⟩, ⟨p1, p2⟩, _⟩ := zGy g h0 h1;rw [hC] at cS p1;rw [hD] at cR p2;obtain ⟨n1, n2, n3⟩ := zAj p1;obtain ⟨m1, m2, m3⟩ := zAj p2;have tf : ∀ {X Y : Tri3}, X ≠ Y → teq X Y = false := fun {X Y} h => by
  rw [← Bool.not_eq_true]; intro k; exact h (zCn.1 k)
 constructor
 ·refine tf ?_;rintro rfl;rcases ho with ho | ho
  ·have := cS.ways.mem_iff.1 ho;simp only [List.mem_cons, Prod.mk.injEq, List.not_mem_nil, or_false] at this;rcases this with ⟨k, _⟩ | ⟨k, _⟩ | ⟨k, _⟩
   ·exact m2 k.symm
   ·exact m3 k
   ·exact hdc k
  ·have := cS.ways.mem_iff.1 ho;simp only [List.mem_cons, Prod.mk.injEq, List.not_mem_nil, or_false] at this;rcases this with ⟨k, _⟩ | ⟨k, _⟩ | ⟨_, k⟩
   ·exact n3 k
   ·exact n2 k.symm
   ·exact m2 k.symm
 ·refine tf ?_;rintro rfl;rcases ho with ho | ho
  ·have := cR.ways.mem_iff.1 ho;simp only [List.mem_cons, Prod.mk.injEq, List.not_mem_nil, or_false] at this;rcases this with ⟨k, _⟩ | ⟨k, _⟩ | ⟨_, k⟩
   ·exact m3 k
   ·exact m2 k.symm
   ·exact n2 k.symm
  ·have := cR.ways.mem_iff.1 ho;simp only [List.mem_cons, Prod.mk.injEq, List.not_mem_nil, or_false] at this;rcases this with ⟨k, _⟩ | ⟨k, _⟩ | ⟨k, _⟩
   ·exact n2 k.symm
   ·exact n3 k
   ·exact hdc k.symm
theorem zI8 (mb b : Nat) (E : Es) (L : List Tri3) (g : Good E L) (p q : Pt) (hk : okW (p, q)) (w : World) (Bm : Box w mb [.map (some b)] 54) (Hm : HoldsMap eW eT okW w b E) :
    Calls Tryz.prog 18 #[.pointer (some ⟨mb, 0, none⟩), .agg #[.int .i64 p.x, .int .i64 p.y], .agg #[.int .i64 q.x, .int .i64 q.y]] w fun e w' => e = .returned (.int .i64 (flipD E p q).1) ∧ w.grownBy w' (some b) ∧ HoldsMap eW eT okW w' b (flipD E p q).2 := by
 have no : ∀ {r : Int} {e : Ending} {w' : World}, flipD E p q = (r, E) → e = .returned (.int .i64 r) ∧ Below w.heap.size w w' → e = .returned (.int .i64 (flipD E p q).1) ∧ w.grownBy w' (some b) ∧ HoldsMap eW eT okW w' b (flipD E p q).2 := fun h ⟨k1, k2⟩ => by
  rw [h]; exact ⟨k1, zA7 k2 _, Hm.ee k2⟩
 cases h0 : getE E (p, q) with
 | none => exact (rflip_n0 mb b E p q hk h0 w Bm Hm).mono fun e w' h => no (zFl (.inl h0)) h
 | some S =>
  cases h1 : getE E (q, p) with
  | none => exact (rflip_n1 mb b E p q hk S h0 h1 w Bm Hm).mono fun e w' h => no (zFl (.inr h1)) h
  | some R =>
   obtain ⟨_, _, _, vp, vq, vc, vd⟩ := zGy g h0 h1;have hs := zHl h0 h1;obtain ⟨C, hC⟩ : ∃ C, apx S p q = C := ⟨_, rfl⟩;obtain ⟨D, hD⟩ : ∃ D, apx R p q = D := ⟨_, rfl⟩;rw [hC] at hs vc;rw [hD] at hs vd;have hc : okW (C, D) := ⟨zC5 vc, zC5 vd⟩;by_cases o1 : 0 < ori p D C
   ·by_cases o2 : 0 < ori D q C
    ·have hdc : D ≠ C := fun e => by rw [e] at o1; have := (zFb vp vc vc).1 o1; have z : det p C C = 0 := by unfold det; grind
                                     omega
     cases he : getE E (D, C) with
     | some O =>
      obtain ⟨t1, t2⟩ := zFk g h0 h1 hC hD hdc (.inl (g.get.1 he).2);refine (rflip_c1 mb b E p q hk S R C D h0 h1 hC hD (decide_eq_false (by omega)) (decide_eq_false (by omega)) hc O he t1 t2 w Bm Hm).mono fun e w' h => no ?_ h;rw [hs, if_neg (by rw [he]; simp)]
     | none =>
      cases hf : getE E (C, D) with
      | some O =>
       obtain ⟨t1, t2⟩ := zFk g h0 h1 hC hD hdc (.inr (g.get.1 hf).2);refine (rflip_c2 mb b E p q hk S R C D h0 h1 hC hD (decide_eq_false (by omega)) (decide_eq_false (by omega)) hc O he hf t1 t2 w Bm Hm).mono fun e w' h => no ?_ h;rw [hs, if_neg (by rw [hf]; simp)]
      | none =>
       obtain ⟨fl, _⟩ := zHj g h0 h1 hC hD o1 o2 he hf;rw [hs, if_pos ⟨o1, o2, he, hf⟩];exact zJf mb b E p q hk S R _ _ C D fl.h0 fl.h1 fl.hC fl.hD fl.o1 fl.o2 fl.hU fl.hV fl.he fl.hf fl.hc fl.hS fl.hR fl.hu fl.hv fl.f1 fl.f2 w Bm Hm
    ·refine (rflip_o2 mb b E p q hk S R C D h0 h1 hC hD (decide_eq_false (by omega)) (decide_eq_true (by omega)) w Bm Hm).mono fun e w' h => no ?_ h;rw [hs, if_neg (fun k => o2 k.2.1)]
   ·refine (rflip_o1 mb b E p q hk S R C D h0 h1 hC hD (decide_eq_true (by omega)) w Bm Hm).mono fun e w' h => no ?_ h;rw [hs, if_neg (fun k => o1 k.1)]
end Go.Proofs.YtjkfakaehjmnbaaGreat
namespace Go.Proofs.YtjkfakaehjmnbaaGreat
open Go.RowKit Go.Sort
attribute [local go_sem] rOper rAt rUpon cell_set sg_i64 sg_u64 alloc_cell alloc_frozen
attribute [local go_sem 10000] pt_eql pt_neq tri_eql
attribute [local irreducible] rWalk
attribute [local go_sem 10000] tri_neq
theorem zEm : ∀ (M N : List Pt), M.Nodup → (∀ p ∈ M, p ∈ N) → M.length ≤ N.length
 | [], _, _, _ => Nat.zero_le _
 | p :: M, N, hn, h => by
  have hp := h p (by simp);have ih := zEm M (N.erase p) (List.nodup_cons.1 hn).2 (fun q hq => (List.mem_erase_of_ne (fun e => (List.nodup_cons.1 hn).1 (by rw [← e]; exact hq))).2 (h q (by simp [hq])));rw [List.length_erase_of_mem hp] at ih;have := List.length_pos_of_mem hp;simp only [List.length_cons]; omega
theorem alloc_cellA (w : World) (o : Obj) (A : Addr) (h : (A.block = w.heap.size) = False) : (w.alloc o).cell? A = w.cell? A := by
 have h' : A.block ≠ w.heap.size := fun e => h.mp e;unfold World.alloc World.cell?;simp only [Array.getElem?_push, if_neg h']
attribute [local go_sem] alloc_cellA
theorem rising_small {M : List Pt} (E : Es) (hE : E.length ≤ 1000000) (h : Rising cmpP M) (hm : ∀ p, p ∈ M ↔ p ∈ froms E) : M.length ≤ 1000000 := by
 have hnd : M.Nodup := h.imp (fun {a b} hab e => by subst e; have := (zCj (p := a) (q := a)).2 rfl; omega);have := zEm M (froms E) hnd (fun p hp => (hm p).1 hp);unfold froms at this;rw [List.length_map] at this;omega
theorem zCc (mb b rb rm : Nat) (E : Es) (L : List Tri3) (hG : Hid (Good E L)) (hok : ∀ T ∈ L, okT T) (hL : L.length ≤ 1000) (w : World) (Bm0 : Box w mb [.map (some b)] 98) (Hm0 : HoldsMap eW eT okW w b E) (Rm0 : Box w rm [.map (some rb)] 54) (Hr0 : HoldsMap eW eT okW w rb E) :
    Calls Tryz.prog 22 #[.pointer (some ⟨mb, 0, none⟩), .pointer (some ⟨rm, 0, none⟩)] w fun e w' => e = .returned (.bool true) ∧ Below w.heap.size w w' := by
 have hlen := hG.out.len;have HP := Lib.hid ((zAo (c := cmpT) (heads yes E)).trans hG.out.heads);have hEl : E.length ≤ 1000000 := by omega
 have ct := fun w0 B H => rtris_any rm rb E hEl w0 B H;have cm := fun w0 B H => zIf mb b E hEl w0 B H;have cp := fun w0 B H => zG6 mb b E hEl w0 B H;have hF := Lib.hid (hG.out.froms HP.out)
 change ∀ w0 B H, Calls _ _ _ _ fun e w' => ∃ a cap, e = .returned (.slice a (srt cmpT (heads yes E)).length cap) ∧ RowAt cT 6 w' a (srt cmpT (heads yes E)) ∧ Below w0.heap.size w0 w' at ct cm
 generalize srt cmpT (heads yes E) = S at *
 obtain ⟨n, hn⟩ : ∃ n, S.length = n := ⟨_, rfl⟩;have hnL : n = L.length := by rw [← hn, HP.out.length_eq]
 have cn := fun w0 B H => zFc mb b E n (Lib.hid (by rw [hlen, hnL])) (by omega) w0 B H;have hn1 : n ≤ 1000 := by omega
 have HN := Lib.hid hn;have hokS : ∀ (i : Nat) (h : i < S.length), okT S[i] ∧ S[i] ∈ L := fun i h => ⟨hok _ (HP.out.mem_iff.1 (List.getElem_mem h)), HP.out.mem_iff.1 (List.getElem_mem h)⟩;rw [hn] at ct cm;clear hn hnL hlen hL hok
 go_enter Tryz.func22, Tryz.ntmps22
 go_wp2_with fail;refine (ct _ Rm0 Hr0).mono ?_;rintro e w1 ⟨a, cap, rfl, hr, hb1⟩;have Bm := Bm0.ee hb1;have Hm := Hm0.ee hb1;have Rm := Rm0.ee hb1;have Hr := Hr0.ee hb1;go_wp2_with fail;refine (cn _ Bm Hm).mono ?_;rintro e w2 ⟨rfl, hb2⟩;have hnn : ((n : Int) != n) = false := by simp
 go_wp2_with fail;refine (cm _ (Bm.ee hb2) (Hm.ee hb2)).mono ?_;rintro e w3 ⟨a3, cap3, rfl, hr3, hb3⟩;have hw3 := (upB hb2 hb3);have hal := alike_T a3 a cap3 cap S S w3 hr3 (hr.ee hw3) (by rw [HN.out]; omega);rw [HN.out, show decide (S = S) = true by simp] at hal;go_wp2_with fail;refine hal.mono ?_;rintro e w4 ⟨rfl, hb4⟩;have hw4 := (upB hw3 hb4);clear hal hb3 hb4;go_wp2_with fail;refine (cp _ (Bm.ee hw4) (Hm.ee hw4)).mono ?_;rintro e w5 ⟨M1, a5, cap5, rfl, hr5, hi5, hm5, hb5⟩;have hw5 := (upB hw4 hb5);clear hb5;go_wp2_with fail;refine (rcorners_any a cap n S HN (by omega) _ (hr.ee hw5)).mono ?_;rintro e w6 ⟨M2, a6, cap6, rfl, hr6, hi6, hm6, hb6⟩;have hw6 := (upB hw5 hb6);have hM : M1 = M2 := zCq wholeP hi5 hi6 (fun p => by rw [hm5 p, hm6 p]; exact hF.out p);subst hM;have hle : M1.length ≤ 1000000 := rising_small E hEl hi5 hm5;have hal := alike_P a5 a6 cap5 cap6 M1 M1 w6 (hr5.ee hb6) hr6 hle;rw [show decide (M1 = M1) = true by simp] at hal;clear hi5 hi6 hm5 hm6 hr5 hb6;go_wp2_with fail;refine hal.mono ?_;rintro e w7 ⟨rfl, hb7⟩;have hw7 := (upB hw6 hb7);clear hb7 hal hr6;go_wp2
 go_loopw [6] (fun vi wr => ∃ i : Nat, vi = .int .i64 i ∧ i ≤ n ∧ Below w1.heap.size w1 wr) (fun vi _ => n - (intOf vi).toNat)
 case atStart => exact ⟨0, rfl, Nat.zero_le _, hw7⟩
 case round =>
  clear hw7 hw6 hw5 hw4 hw3;obtain ⟨i, rfl, hi, hw⟩ := hrel;by_cases hil : i < n
  case neg =>
   go_wp2
   go_ret
   exact ⟨rfl, (upB hb1 hw)⟩
  case pos =>
   have hiS : i < S.length := HN.out ▸ hil;obtain ⟨hokT, hTL⟩ := hokS i hiS;obtain ⟨ad, A, ea, eA, hA0⟩ := hr.six hiS;generalize S[i] = T at *
   go_wp2
   go_loopw [7] (fun vk wr => ∃ k : Nat, vk = .int .i64 k ∧ k ≤ 3 ∧ Below w1.heap.size w1 wr) (fun vk _ => 3 - (intOf vk).toNat)
   case atStart => exact ⟨0, rfl, by omega, hw⟩
   case round =>
    clear hw;obtain ⟨k, rfl, hk, hw⟩ := hrel;by_cases hk3 : k < 3
    case neg =>
     go_wp2;try rw [← ea]
     go_roundw
     case rel => exact ⟨i + 1, by go_num, by omega, hw⟩
     case measure => simp [intOf]; omega
    case pos =>
        have ca := zFp mb b E T k hokT;have cr := racross_any rm rb E T k hokT (by omega) (by omega);have cl0 := zJq mb b E (crn T k) (crn T ((k : Int) + 1)) ⟨zEl hokT _, zEl hokT _⟩;rw [hG.out.left hTL (by omega)] at cl0;have c1 := zAm T k;have c2 := zAm T ((k : Int) + 1);have hki : IntKind.i64.wrap ((k : Int) + 1) = (k : Int) + 1 := by rw [IntKind.wrap_i64]; omega
        generalize acrE E T k = xv at *
        obtain ⟨X, v⟩ := xv;dsimp only at ca cr cl0;generalize crn T k = P at *
        generalize crn T ((k : Int) + 1) = Q at *
        have tt : teq X X = true := zCn.2 rfl;have tT : teq T T = true := zCn.2 rfl;have vv : (v != v) = false := by simp
        obtain ⟨zA, q0, q1, q2, q3, q4, q5⟩ := (hA0.ee hw).f;go_wp2_with fail;refine (ca _ (Bm.ee hw) (Hm.ee hw)).mono ?_;rintro e w11 ⟨rfl, hb⟩;replace hw := upB hw hb;clear hb;clear zA q0 q1 q2 q3 q4 q5;obtain ⟨zA, q0, q1, q2, q3, q4, q5⟩ := (hA0.ee hw).f;go_wp2_with fail;clear zA q0 q1 q2 q3 q4 q5;refine zA1 fun W2 hW => ?_;obtain ⟨bkx, hbx⟩ : ∃ b, w11.heap.size = b := ⟨_, rfl⟩;rw [hbx];obtain ⟨fx, Bx, hw⟩ := M0 hW hbx hw;clear hW hbx;refine (cr _ (Rm.ee hw) (Hr.ee hw)).mono ?_;rintro e w31 ⟨rfl, hb⟩;obtain ⟨Bx, hw, -⟩ := X1 Bx hw hb;clear hb;obtain ⟨zA, q0, q1, q2, q3, q4, q5⟩ := (hA0.ee hw).f;have Fx := Bx.f;go_wp2_with fail;clear Fx;clear zA q0 q1 q2 q3 q4 q5;refine zA2 fun W4 hW => ?_;obtain ⟨bky, hby⟩ : ∃ b, w31.heap.size = b := ⟨_, rfl⟩;rw [hby];obtain ⟨lxy, fy, By, Bx, hw⟩ := Go.Proofs.YtjkfakaehjmnbaaGreat.M1 hW hby Bx hw;clear hW hby;have BM : Box W4 mb [.map (some b)] 98 := Bm.ee hw;have hA := hA0.ee hw;obtain ⟨t0, t1, t2, t3, t4, t5⟩ := hA.cells;have cl : ∀ d os, Calls Tryz.prog 36 #[.pointer (some ⟨mb, 0, none⟩), .agg #[.int .i64 P.x, .int .i64 P.y], .agg #[.int .i64 Q.x, .int .i64 Q.y]] (grow (redrawn W4 d) os) fun e w' => e = .returned (.tuple #[.agg #[.int .i64 T.A.x, .int .i64 T.A.y, .int .i64 T.B.x, .int .i64 T.B.y, .int .i64 T.C.x, .int .i64 T.C.y], .bool true]) ∧ Below (grow (redrawn W4 d) os).heap.size (grow (redrawn W4 d) os) w' := fun d os => cl0 _ ((Bm.ee hw).ext (below_regrown W4 d os) rfl) ((Hm.ee hw).ext (below_regrown W4 d os) rfl);have gx := Bx.cells;have gy := By.cells;have gM := BM.cells;refine zA3 18 12 82 [.int .i64 T.A.x, .int .i64 T.A.y, .int .i64 T.B.x, .int .i64 T.B.y, .int .i64 T.C.x, .int .i64 T.C.y] (zs := [.int .i64 0, .int .i64 0, .int .i64 0, .int .i64 0, .int .i64 0, .int .i64 0]) (eff := eff6 (.int .i64 T.A.x) (.int .i64 T.A.y) (.int .i64 T.B.x) (.int .i64 T.B.y) (.int .i64 T.C.x) (.int .i64 T.C.y)) zAc rfl rfl rfl rfl rfl rfl rfl (by simp) (fun ρ W => by simp [execOp, go_sem]; rfl) (by kernel_rfl) (by as_aux_lemma => kernel_rfl) (C := fun w' => ∃ p : Regrown, w' = grow (redrawn W4 p.d) p.os) rgB ?_ (fun ρ W b e1 e2 hB => by obtain ⟨x, y, _, _⟩ := hB.f; simp [execOp, go_sem, e1, e2, x, y, eff6]);simp only [tK1, tK0, dP1, dP0];repeat (first | (refine zA0 (Eq.refl false) ?_; simp only [Act.put, sT2, sT1, sT0]) | (refine rWalk_step (fun K hK => ?_); go_simp; first | (refine hK _ ?_; clear hK K) | (apply Exists.intro; refine ⟨fun _ => ?_, hK _ ?_⟩; (first | with_reducible exact toExt c1 _ | with_reducible exact toExt c2 _ | with_reducible exact toExtD cl _ _); clear hK K)))
        refine rWalk_nil ⟨rfl, ?_⟩;intro w5 bkz hb h1b h2b Bz;have lxz := Bx.lt;have lyz := By.lt;have lMz := BM.lt;have hw0z := hw.size;clear gx gy gM;obtain ⟨Bx, By, BM, hw, -⟩ := X3 Bx By BM hw hb;have fz := h1b;have hwz : w1.heap.size ≤ W4.heap.size := hw0z;clear hb h1b h2b hw0z;simp only [Act.put];clear cl t0 t1 t2 t3 t4 t5 hA;have Fx := Bx.f;have Fy := By.f;have FM := BM.f;have Fz := Bz.f;go_wp2_with fail;clear Fx Fy FM Fz;refine zA2 fun W56 hW => ?_;subst hW;obtain ⟨t0, t1, t2, t3, t4, t5⟩ := (hA0.ee hw).cells;have gx := Bx.cells;have gy := By.cells;have gM := BM.cells;have gz := Bz.cells;refine wrt 19 (by kernel_rfl) (by kernel_rfl) ?_;simp only [tK1, tK0, dP1, dP0];repeat (first | (refine zA0 (Eq.refl false) ?_; simp only [Act.put, sT2, sT1, sT0]) | (refine rWalk_step (fun K hK => ?_); go_simp; refine hK _ ?_; clear hK K))
        refine rWalk_nil ?_;intro w7 hb;clear gx gy gM gz;obtain ⟨Bx, By, BM, Bz, hw, -⟩ := X4 Bx By BM Bz hw hb;clear t0 t1 t2 t3 t4 t5;have Fx := Bx.f;have Fy := By.f;have FM := BM.f;have Fz := Bz.f;go_wp2;try rw [← ea]
        go_roundw
        case rel => exact ⟨k + 1, by go_num, by omega, hw⟩
        case measure => simp [intOf]; omega
end Go.Proofs.YtjkfakaehjmnbaaGreat
namespace Go.Proofs.YtjkfakaehjmnbaaGreat
open Go.RowKit
theorem zI1 (p a b : Pt) : tch p a b = 0 ∨ tch p a b = 2 := by unfold tch; (repeat' split) <;> simp
theorem mx4_two {a b c d : Int} (ha : a = 0 ∨ a = 2) (hb : b = 0 ∨ b = 2) (hc : c = 0 ∨ c = 2) (hd : d = 0 ∨ d = 2) : mx4 a b c d ≠ 1 := by
 rcases ha with rfl | rfl <;> rcases hb with rfl | rfl <;> rcases hc with rfl | rfl <;> rcases hd with rfl | rfl <;> decide
theorem cross_one {a b c d : Pt} : meetR a b c d = 1 ↔ (vld a = true ∧ vld b = true ∧ vld c = true ∧ vld d = true) ∧ ((0 < det a b c ∧ det a b d < 0) ∨ (det a b c < 0 ∧ 0 < det a b d)) ∧ ((0 < det c d a ∧ det c d b < 0) ∨ (det c d a < 0 ∧ 0 < det c d b)) := by
 unfold meetR;cases va : vld a with
 | false => simp
 | true =>
  cases vb : vld b with
  | false => simp
  | true =>
   cases vc : vld c with
   | false => simp
   | true =>
    cases vd : vld d with
    | false => simp
    | true =>
     have zab : peqI a.x a.y b.x b.y = true → ∀ p, det a b p = 0 := fun h p => by
      rw [zBk.1 h]; unfold det; grind
     have zcd : peqI c.x c.y d.x d.y = true → ∀ p, det c d p = 0 := fun h p => by
      rw [zBk.1 h]; unfold det; grind
     rw [ori_v va vb vc, ori_v va vb vd, ori_v vc vd va, ori_v vc vd vb];have l1 : lap a b c d ≠ 1 := by unfold lap; split <;> decide
     have l2 := mx4_two (zI1 a c d) (zI1 b c d) (zI1 c a b) (zI1 d a b);have s1 := zAa (det a b c);have s2 := zAa (det a b d);have s3 := zAa (det c d a);have s4 := zAa (det c d b);simp only [Bool.true_eq_false, if_false, and_self, true_and];split
     ·rename_i h; have := zab h c; have := zab h d; simp; omega
     ·split
      ·rename_i h; have := zcd h a; have := zcd h b; simp; omega
      ·split
       ·rename_i h; simp only [l1, false_iff]; omega
       ·split
        ·rename_i h
         simp only [true_iff];rcases s1 with ⟨e1, _⟩ | ⟨e1, _⟩ | ⟨e1, _⟩ <;> rcases s2 with ⟨e2, _⟩ | ⟨e2, _⟩ | ⟨e2, _⟩ <;> rcases s3 with ⟨e3, _⟩ | ⟨e3, _⟩ | ⟨e3, _⟩ <;> rcases s4 with ⟨e4, _⟩ | ⟨e4, _⟩ | ⟨e4, _⟩ <;> rw [e1, e2, e3, e4] at h <;> first | omega | (simp at h)
        ·rename_i h
         simp only [l2, false_iff];rintro ⟨k1, k2⟩;apply h;rcases s1 with ⟨e1, _⟩ | ⟨e1, _⟩ | ⟨e1, _⟩ <;> rcases s2 with ⟨e2, _⟩ | ⟨e2, _⟩ | ⟨e2, _⟩ <;> rcases s3 with ⟨e3, _⟩ | ⟨e3, _⟩ | ⟨e3, _⟩ <;> rcases s4 with ⟨e4, _⟩ | ⟨e4, _⟩ | ⟨e4, _⟩ <;> rw [e1, e2, e3, e4] <;> first | omega | (simp)
theorem zF1 {E D : Es} (p : D.Perm E) (x : Pt × Pt) : (delE D x).Perm (delE E x) := p.filter _
theorem zGn {E D : Es} (p : D.Perm E) (x : Pt × Pt) (v : Tri3) : (putE D x v).Perm (putE E x v) := (zF1 p x).cons _
theorem takeT_same {E D : Es} (p : D.Perm E) (T : Tri3) : (takeT D T).Perm (takeT E T) := zF1 (zF1 (zF1 p _) _) _
theorem putT_same {E D : Es} (p : D.Perm E) (T : Tri3) : (putT D T).Perm (putT E T) := zGn (zGn (zGn p _ _) _ _) _ _
theorem putT_nodup {E : Es} (h : KeysNodup E) (T : Tri3) : KeysNodup (putT E T) := zBn (zBn (zBn h _ _) _ _) _ _
theorem hasE_same {E D : Es} (hn : KeysNodup D) (p : D.Perm E) (T : Tri3) : hasE D T = hasE E T := by unfold hasE; rw [zC2 hn p]
theorem fitsE_same {E D : Es} (hn : KeysNodup D) (p : D.Perm E) (T : Tri3) : fitsE D T = fitsE E T := by unfold fitsE; rw [zC2 hn p, zC2 hn p, zC2 hn p]
theorem zF4 : ∀ (L : List Tri3) {D E : Es}, KeysNodup D → D.Perm E → (takeRun D L).1 = (takeRun E L).1 ∧ (takeRun D L).2.Perm (takeRun E L).2 ∧ KeysNodup (takeRun D L).2
 | [], D, E, hn, p => ⟨rfl, p, hn⟩
 | T :: L, D, E, hn, p => by
  unfold takeRun;rw [hasE_same hn p];by_cases h : hasE E T = true
  ·rw [if_pos h, if_pos h];obtain ⟨h1, h2, h3⟩ := zF4 L (zFw hn T) (takeT_same p T);exact ⟨by rw [h1], h2, h3⟩
  ·rw [if_neg h, if_neg h];exact ⟨rfl, p, hn⟩
theorem zG3 : ∀ (L : List Tri3) {D E : Es}, KeysNodup D → D.Perm E → (putRun D L).1 = (putRun E L).1 ∧ (putRun D L).2.Perm (putRun E L).2
 | [], D, E, hn, p => ⟨rfl, p⟩
 | T :: L, D, E, hn, p => by
  unfold putRun;rw [fitsE_same hn p];by_cases h : fitsE E T = true
  ·rw [if_pos h, if_pos h];obtain ⟨h1, h2⟩ := zG3 L (putT_nodup hn T) (putT_same p T);exact ⟨by rw [h1], h2⟩
  ·rw [if_neg h, if_neg h];exact ⟨rfl, p⟩
theorem Good.same {D E : Es} {L : List Tri3} (g : Good E L) (p : D.Perm E) : Good D L := ⟨p.trans g.perm, g.nodup.perm p.symm, g.val⟩
theorem repl_doc {E D : Es} {L L1 L2 L' : List Tri3} {r : Int} (g : Good E L) (p : D.Perm E) (h : Repl E L L1 L2 r L') :
    (r = 16 ∧ (takeRun D L1).1 < L1.length ∧ L'.Perm L) ∨ (r = 2 ∧ (takeRun D L1).1 = L1.length ∧ (putRun (takeRun D L1).2 L2).1 < L2.length ∧ L'.Perm L) ∨
    (r = 0 ∧ (takeRun D L1).1 = L1.length ∧ (putRun (takeRun D L1).2 L2).1 = L2.length ∧ Good (putRun (takeRun D L1).2 L2).2 L') := by
 have gD := g.same p;obtain ⟨e1, q1, n1⟩ := zF4 L1 gD.nodup p;obtain ⟨e2, q2⟩ := zG3 L2 n1 q1;rcases h with ⟨h1, h2, h3⟩ | ⟨h1, h2, h3, h4⟩ | ⟨h1, h2, h3, M, p1, p2⟩
 ·exact .inl ⟨h1, by omega, h3⟩
 ·exact .inr (.inl ⟨h1, by omega, by omega, h4⟩)
 ·refine .inr (.inr ⟨h1, by omega, by omega, ?_⟩);obtain ⟨_, g1⟩ := Good.takes (gD.order p1);have g2 := Good.putUp (L2 := L2) g1;rw [List.take_of_length_le (by omega)] at g2;exact g2.order p2.symm
theorem zJw {E E' D : Es} {L L' : List Tri3} {p q : Pt} {r : Int} (g : Good E L) (pD : D.Perm E) (g' : Good E' L') (h : FlipC E L p q r L') : (flipD D p q).1 = r ∧ Good (flipD D p q).2 L' := by
 have gD := g.same pD;rcases h with ⟨h1, h2, h3⟩ | ⟨S, R, h0, h1, h⟩
 ·rw [zFl (by rw [zC2 gD.nodup pD, zC2 gD.nodup pD]; exact h2)];exact ⟨h1.symm, gD.order h3.symm⟩
 ·have k0 : getE D (p, q) = some S := by rw [zC2 gD.nodup pD]; exact h0
  have k1 : getE D (q, p) = some R := by rw [zC2 gD.nodup pD]; exact h1
  rw [zHl k0 k1];obtain ⟨⟨mS, mR⟩, ⟨cS, cR⟩, ⟨p1, p2⟩, vp, vq, vc, vd⟩ := zGy gD k0 k1;obtain ⟨C, eC⟩ : ∃ C, apx S p q = C := ⟨_, rfl⟩;obtain ⟨F, eF⟩ : ∃ F, apx R p q = F := ⟨_, rfl⟩;rw [eC, eF] at h;rw [eC] at cS p1 vc;rw [eF] at cR p2 vd;rw [eC, eF];have s1 : det p q F = -det q p F := by unfold det; grind
  have s2 : det C F p = -det p F C := by unfold det; grind
  have s3 : det C F q = det F q C := by unfold det; grind
  have hcr : meetS p q C F = 1 ↔ 0 < ori p F C ∧ 0 < ori F q C := by
   rw [meet_eq, cross_one, zFb vp vd vc, zFb vd vq vc];constructor
   ·rintro ⟨_, _, h2⟩;have : det p F C + det F q C = det p q C + det q p F := by unfold det; grind
    omega
   ·rintro ⟨o1, o2⟩;exact ⟨⟨vp, vq, vc, vd⟩, by omega, by omega⟩
  rcases h with ⟨hm, hr, hp⟩ | ⟨hm, hR⟩
  ·rw [if_neg (fun hc => hm (hcr.2 ⟨hc.1, hc.2.1⟩))];exact ⟨hr.symm, gD.order hp.symm⟩
  ·obtain ⟨o1, o2⟩ := hcr.1 hm;rw [← zJm C p F] at hR;have hne : S ≠ R := by
    rintro rfl;obtain ⟨n1, n2, n3⟩ := zAj p1;rcases (cR.cnr_iff C).1 cS.turn.turn.cnr with e | e | e
    ·exact n2 e.symm
    ·exact n3 e
    ·rw [← e] at s1 p2; omega
   obtain ⟨M, hM⟩ := zDm mS mR hne;have hFC : F ≠ C := by
    intro e;rw [e] at s1 p2;omega
   by_cases hfree : getE D (F, C) = none ∧ getE D (C, F) = none
   ·obtain ⟨_, M2, hM2, gF⟩ := zHj gD k0 k1 eC eF o1 o2 hfree.1 hfree.2;rw [if_pos ⟨o1, o2, hfree.1, hfree.2⟩];have gE := g.order (show L.Perm ([S, R] ++ M2) from hM2);obtain ⟨t1, t2⟩ := Good.takes gE;have hnod : (([mk p F C, mk F q C] ++ M2).flatMap ways).Nodup := gF.once;have hval : ∀ T ∈ [mk p F C, mk F q C], valT T = true := fun T hT => gF.val T (by
     simp only [List.mem_cons, List.not_mem_nil, or_false] at hT;rcases hT with rfl | rfl <;> simp)
    obtain ⟨t3, t4⟩ := Good.puts t2 hval hnod;rcases hR with ⟨_, h2, _⟩ | ⟨_, _, h3, _⟩ | ⟨h1', _, _, M3, p3, p4⟩
    ·exact absurd h2 (by rw [t1]; omega)
    ·exact absurd h3 (by rw [t3]; omega)
    ·refine ⟨h1'.symm, gF.order ?_⟩;have : M3.Perm M2 := (List.perm_append_left_iff [S, R]).1 (p3.symm.trans hM2);exact ((this.append_left [mk p F C, mk F q C]).symm).trans p4.symm
   ·rw [if_neg (fun hc => hfree ⟨hc.2.2.1, hc.2.2.2⟩)];have hO : ∃ O, O ∈ L ∧ ((F, C) ∈ ways O ∨ (C, F) ∈ ways O) := by
     by_cases e : getE D (F, C) = none
     ·obtain ⟨O, hO⟩ := Option.ne_none_iff_exists'.1 (fun e2 => hfree ⟨e, e2⟩);obtain ⟨a, b⟩ := gD.get.1 hO;exact ⟨O, a, .inr b⟩
     ·obtain ⟨O, hO⟩ := Option.ne_none_iff_exists'.1 e;obtain ⟨a, b⟩ := gD.get.1 hO;exact ⟨O, a, .inl b⟩
    obtain ⟨O, mO, wO⟩ := hO;obtain ⟨x1, x2⟩ := zFk gD k0 k1 eC eF hFC wO;have gE := g.order (show L.Perm ([S, R] ++ M) from hM);obtain ⟨t1, t2⟩ := Good.takes gE;rcases hR with ⟨_, h2, _⟩ | ⟨h1', _, _, h4⟩ | ⟨_, _, _, M3, p3, p4⟩
    ·exact absurd h2 (by rw [t1]; omega)
    ·exact ⟨h1'.symm, gD.order h4.symm⟩
    ·exfalso
     have mO3 : O ∈ M3 := by
      have := p3.mem_iff.1 mO;simp only [List.cons_append, List.nil_append, List.mem_cons] at this;rcases this with rfl | rfl | h
      ·rw [zCn.2 rfl] at x1; cases x1
      ·rw [zCn.2 rfl] at x2; cases x2
      ·exact h
     have hnod := (g'.order p4).once;simp only [List.cons_append, List.nil_append, List.flatMap_cons] at hnod;rw [← List.append_assoc, List.nodup_append] at hnod;have d1 : 0 < det p F C := (zFb vp vd vc).1 o1;have d2 : 0 < det F q C := (zFb vd vq vc).1 o2;have v1 := (g'.order p4).val (mk p F C) (by simp);have v2 := (g'.order p4).val (mk F q C) (by simp);have w1 : (F, C) ∈ ways (mk p F C) := (zB2 vp vd vc d1).1.turn.way;have w2 : (C, F) ∈ ways (mk F q C) := (zB2 vd vq vc d2).1.turn.turn.way;rcases wO with wO | wO
     ·exact hnod.2.2 (F, C) (List.mem_append_left _ w1) (F, C) (List.mem_flatMap.2 ⟨O, mO3, wO⟩) rfl
     ·exact hnod.2.2 (C, F) (List.mem_append_right _ w2) (C, F) (List.mem_flatMap.2 ⟨O, mO3, wO⟩) rfl
end Go.Proofs.YtjkfakaehjmnbaaGreat
namespace Go.Proofs.YtjkfakaehjmnbaaGreat
open Go.RowKit Go.Sort
attribute [local go_sem] rOper rAt rUpon cell_set sg_i64 sg_u64 alloc_cell alloc_frozen
attribute [local go_sem 10000] pt_eql pt_neq tri_eql
attribute [local irreducible] rWalk
attribute [local go_sem] rmap_nil run_makeMap
def RReplPost (w : World) (mb : Nat) (E : Es) (n1 n2 : Nat) (L1 L2 : List Tri3) (e : Ending) (w' : World) : Prop := ∃ D : Es, D.Perm E ∧
 (((takeRun D L1).1 < n1 ∧ e = .returned (.int .i64 16) ∧ Below w.heap.size w w') ∨
  ((takeRun D L1).1 = n1 ∧ (putRun (takeRun D L1).2 L2).1 < n2 ∧ e = .returned (.int .i64 2) ∧ Below w.heap.size w w') ∨
  ((takeRun D L1).1 = n1 ∧ (putRun (takeRun D L1).2 L2).1 = n2 ∧ e = .returned (.int .i64 0) ∧ w.grownBy w' (some mb) ∧ ∃ b', Box w' mb [.map (some b')] 54 ∧ HoldsMap eW eT okW w' b' (putRun (takeRun D L1).2 L2).2 ∧ w.heap.size ≤ b'))
theorem put_copy {E D R : Es} {q : Pt × Pt} {T : Tri3} (hE : KeysNodup E) (h : (D ++ (q, T) :: R).Perm E) : (putE D q T).Perm (D ++ [(q, T)]) := by
 have h2 := hE.perm h.symm;have h3 : ∀ p ∈ D, p.1 ≠ q := by
  intro p hp e;unfold KeysNodup at h2;rw [List.map_append, List.nodup_append] at h2;exact h2.2.2 p.1 (List.mem_map_of_mem hp) q (by simp) e
 unfold putE;rw [zD6 h3];exact (List.perm_append_comm (l₁ := D) (l₂ := [(q, T)])).symm
theorem zDq (mb b : Nat) (E : Es) (a1 a2 : Option Addr) (cap1 cap2 n1 n2 : Nat) (L1 L2 : List Tri3) (hn1 : Hid (L1.length = n1)) (hm1 : n1 ≤ 1000000) (hok1 : ∀ T ∈ L1, okT T) (hn2 : Hid (L2.length = n2)) (hm2 : n2 ≤ 1000000) (hok2 : ∀ T ∈ L2, okT T) (hnE : KeysNodup E) (w : World) (Bm : Box w mb [.map (some b)] 54) (Hm : HoldsMap eW eT okW w b E) (Hr1 : RowAt cT 6 w a1 L1) (Hr2 : RowAt cT 6 w a2 L2) :
    Calls Tryz.prog 21 #[.pointer (some ⟨mb, 0, none⟩), .slice a1 n1 cap1, .slice a2 n2 cap2] w (RReplPost w mb E n1 n2 L1 L2) := by
 have hoks := Hm.oks;have Fm := Bm.f;have zm1 : (mb = w.heap.size + 1) = False := by have := Bm.lt; simp; omega
 have hmb := Lib.hid Bm.lt
 go_enter Tryz.func21, Tryz.ntmps21
 go_wp2_with (at_range; refine zB7 _ rfl _ rfl kvR rfl ((Hm.alloc _).alloc _) ?_)
 intro w0 HR0 hw0 hs0;have Bn0 : Box w0 (w.heap.size + 1) [.map (some w.heap.size)] 54 := (Box.new (by simp)).ext hw0 (by simp);have Hc0 : HoldsMap eW eT okW w0 w.heap.size ([] : Es) := ((HoldsMap.made w).alloc _).ext hw0 (by simp);replace hw0 : Below w.heap.size w w0 := (((Below.refl w.heap.size w).alloc (Nat.le_refl _) _).alloc (by simp) _).trans (hw0.mono (by first | omega | simp));clear Fm zm1;go_wp2
 go_loopw [] (fun wr => ∃ D R : Es, Hid ((D ++ R).Perm E) ∧ HoldsMap eW eT okW wr w.heap.size D ∧ Box wr (w.heap.size + 1) [.map (some w.heap.size)] 54 ∧ Ranging eW eT okW wr b (w.heap.size + 2) E R ∧ Below w.heap.size w wr) (fun wr => wr.rangeLeft b (w.heap.size + 2))
 case atStart => exact ⟨[], E, Lib.hid (by simp), Hc0, Bn0, by simpa using HR0, hw0⟩
 case round =>
  clear HR0 hw0 Bn0 Hc0 hs0;obtain ⟨D, R, hD, Hc, Bn, HR, hw⟩ := hrel;go_wp2_with (at_next; refine zBe _ rfl _ rfl rfl HR ?_ ?_)
  ·intro hR;subst hR;have hpD : D.Perm E := by simpa using hD.out
   clear hD HR;replace hpD := Lib.hid hpD;go_wp2
   go_loopw [10] (fun i wr => ∃ (k : Nat) (F : Es), k ≤ n1 ∧ i = .int .i64 k ∧ Hid (takeRun D L1 = (k + (takeRun F (L1.drop k)).1, (takeRun F (L1.drop k)).2)) ∧ Box wr (w.heap.size + 1) [.map (some w.heap.size)] 54 ∧ HoldsMap eW eT okW wr w.heap.size F ∧ Below w.heap.size w wr) (fun i _ => n1 - (intOf i).toNat)
   case atStart => exact ⟨0, D, Nat.zero_le _, rfl, Lib.hid (by simp), Bn, Hc, hw⟩
   case round =>
    clear Bn Hc hw;obtain ⟨k, F, hk, rfl, hRn, BM, HF, hw⟩ := hrel;by_cases hlt : k < n1
    ·have hlk : k < L1.length := hn1.out ▸ hlt;have hokk := hok1 L1[k] (List.getElem_mem hlk);have hst := fun hf => zF3 hlk hRn.out hf;have hsp := fun hf => zF2 hlk hRn.out hf;obtain ⟨ad, A, ea, eA, hA⟩ := (Hr1.ee hw).six hlk;generalize L1[k] = T at *
     have ch := zGk (w.heap.size + 1) w.heap.size F T hokk;have ct := zEu (w.heap.size + 1) w.heap.size F T hokk;cases hv : hasE F T with
     | false =>
      have HP := Lib.hid (hsp hv);rw [hv] at ch;clear hst hsp hv ct;obtain ⟨zA, q0, q1, q2, q3, q4, q5⟩ := hA.f;go_wp2_with fail;refine (ch _ BM HF).mono ?_;rintro e w2 ⟨rfl, hb⟩;clear zA q0 q1 q2 q3 q4 q5;go_wp2
      go_ret
      exact ⟨D, hpD.out, .inl ⟨by rw [HP.out]; exact hlt, rfl, (upB hw hb)⟩⟩
     | true =>
      have HP := Lib.hid (hst hv);rw [hv] at ch;clear hst hsp hv;obtain ⟨zA, q0, q1, q2, q3, q4, q5⟩ := hA.f;go_wp2_with fail;refine (ch _ BM HF).mono ?_;rintro e w2 ⟨rfl, hb⟩;clear zA q0 q1 q2 q3 q4 q5;obtain ⟨zA, q0, q1, q2, q3, q4, q5⟩ := (hA.ee hb).f;replace hw := upB hw hb;replace BM := BM.ee hb;replace HF := HF.ee hb;go_wp2_with fail;refine (ct _ BM HF).mono ?_;rintro e w3 ⟨rfl, hg, HG⟩;clear zA q0 q1 q2 q3 q4 q5;replace BM := BM.turn HF hg;replace hw := zAi hw hg hw.size (Nat.le_refl _);clear HF hg hb hA;go_wp2;rw [← ea]
      go_roundw
      case rel => exact ⟨k + 1, takeT F T, by omega, by go_num, HP, BM, HG, hw⟩
      case measure => simp [intOf]; omega
    ·have HP0 := Lib.hid (zFx (by rw [hn1.out]; omega) hRn.out);have HQ := Lib.hid (show (takeRun D L1).1 = n1 by rw [HP0.out]; show k = n1; omega);have HF2 := Lib.hid (show (takeRun D L1).2 = F by rw [HP0.out]);clear HP0 hRn;go_wp2;clear hlt hk
     go_loopw [11] (fun i wr => ∃ (k : Nat) (G : Es), k ≤ n2 ∧ i = .int .i64 k ∧ Hid (putRun F L2 = (k + (putRun G (L2.drop k)).1, (putRun G (L2.drop k)).2)) ∧ Box wr (w.heap.size + 1) [.map (some w.heap.size)] 54 ∧ HoldsMap eW eT okW wr w.heap.size G ∧ Below w.heap.size w wr) (fun i _ => n2 - (intOf i).toNat)
     case atStart => exact ⟨0, F, Nat.zero_le _, rfl, Lib.hid (by simp), BM, HF, hw⟩
     case round =>
      clear BM HF hw;obtain ⟨k, G, hk, rfl, hR, BM, HF, hw⟩ := hrel;by_cases hlt : k < n2
      ·have hlk : k < L2.length := hn2.out ▸ hlt;have hokk := hok2 L2[k] (List.getElem_mem hlk);have hst := fun hf => zE8 hlk hR.out hf;have hsp := fun hf => zE7 hlk hR.out hf;obtain ⟨ad, A, ea, eA, hA⟩ := (Hr2.ee hw).six hlk;generalize L2[k] = T at *
       have cv := zCd T;have HN := Lib.hid (fun (W : World) (r : Nat × Es) (h : putRun F L2 = (k, G)) (hbw : Below w.heap.size w W) => show RReplPost w mb E n1 n2 L1 L2 (.returned (.int .i64 2)) W from ⟨D, hpD.out, .inr (.inl ⟨HQ.out, by rw [HF2.out, h]; exact hlt, rfl, hbw⟩)⟩);cases hv : valT T with
       | false =>
        have HP := Lib.hid (hsp (by rw [zDj, hv, Bool.and_false]));rw [hv] at cv;clear hst hsp hv;obtain ⟨zA, q0, q1, q2, q3, q4, q5⟩ := hA.f;go_wp2_with fail;refine (cv _).mono ?_;rintro e w2 ⟨rfl, hb⟩;clear zA q0 q1 q2 q3 q4 q5;go_wp2
        go_ret
        exact HN.out _ (0, []) HP.out ((upB hw hb))
       | true =>
        rw [hv] at cv;cases hf : freeE G T with
        | false =>
         have HP := Lib.hid (hsp (by rw [zDj, hf, Bool.false_and]));have cp := zJd (w.heap.size + 1) w.heap.size G T hf hokk;clear hst hsp hv hf;obtain ⟨zA, q0, q1, q2, q3, q4, q5⟩ := hA.f;go_wp2_with fail;refine (cv _).mono ?_;rintro e w2 ⟨rfl, hb⟩;clear zA q0 q1 q2 q3 q4 q5;obtain ⟨zA, q0, q1, q2, q3, q4, q5⟩ := (hA.ee hb).f;replace hw := upB hw hb;go_wp2_with fail;refine (cp _ (BM.ee hb) (HF.ee hb)).mono ?_;rintro e w3 ⟨rfl, hb2⟩;clear zA q0 q1 q2 q3 q4 q5;go_wp2
         go_ret
         exact HN.out _ (0, []) HP.out ((upB hw hb2))
        | true =>
         have HP := Lib.hid (hst (by rw [zDj, hf, hv]; rfl));have cp := zF8 (w.heap.size + 1) w.heap.size G T hf hokk;clear hst hsp hv hf HN;obtain ⟨zA, q0, q1, q2, q3, q4, q5⟩ := hA.f;go_wp2_with fail;refine (cv _).mono ?_;rintro e w2 ⟨rfl, hb⟩;clear zA q0 q1 q2 q3 q4 q5;obtain ⟨zA, q0, q1, q2, q3, q4, q5⟩ := (hA.ee hb).f;replace hw := upB hw hb;replace BM := BM.ee hb;replace HF := HF.ee hb;go_wp2_with fail;refine (cp _ BM HF).mono ?_;rintro e w3 ⟨rfl, hg, HG⟩;clear zA q0 q1 q2 q3 q4 q5;replace BM := BM.turn HF hg;replace hw := zAi hw hg hw.size (Nat.le_refl _);clear HF hg hb hA;go_wp2;rw [← ea]
         go_roundw
         case rel => exact ⟨k + 1, putT G T, by omega, by go_num, HP, BM, HG, hw⟩
         case measure => simp [intOf]; omega
      ·have HP := Lib.hid (zFa (by rw [hn2.out]; omega) hR.out);have BMm := Bm.ee hw;have Fm := BMm.f;have Fn := BM.f;have hmn : mb ≠ w.heap.size := Nat.ne_of_lt hmb.out;go_wp2
       go_ret
       refine ⟨D, hpD.out, .inr (.inr ⟨HQ.out, by rw [HF2.out, HP.out]; show k = n2; omega, rfl, zA9 (zA7 hw _) ⟨rfl, rfl, rfl, by simp, fun i _ hne => Below.heap_setCell _ ⟨mb, 0, none⟩ _ i (fun e => hne (by rw [e]))⟩, w.heap.size, BMm.set 0 _, ?_, Nat.le_refl _⟩)⟩;rw [HF2.out, HP.out];exact HF.set_ne _ _ hmn
  ·intro u x T R' w1 hperm HR1 hg1 hs1 hen;have hD1 := Lib.hid (show (D ++ ((u, x), T) :: R').Perm E from (hperm.append_left D).symm.trans hD.out);have hD2 := Lib.hid (show ((D ++ [((u, x), T)]) ++ R').Perm E by have := hD1.out; simpa using this);have hk : okW (u, x) := hoks ((u, x), T) (hD2.out.mem_iff.1 (by simp));have hkc := Lib.hid (put_copy hnE hD1.out);have Hc1 := Hc.kept hg1 (by intro e; exact absurd (Option.some.inj e) (by omega));have Bn1 := Bn.grown1 hg1;have hw1 := hw.grown hg1 hw.size (fun k hk => by cases hk; omega);have HL := Lib.hid (show w1.rangeLeft b (w.heap.size + 2) < wr.rangeLeft b (w.heap.size + 2) by rw [zAg HR1, zAg HR, hperm.length_eq]; simp);have hen2 : (Instr.entry (.pointer (some ⟨w.heap.size + 2, 0, none⟩))).run Tryz.prog w1 = .ok (.tuple #[.agg #[.int .i64 u.x, .int .i64 u.y, .int .i64 x.x, .int .i64 x.y], .agg #[.int .i64 T.A.x, .int .i64 T.A.y, .int .i64 T.B.x, .int .i64 T.B.y, .int .i64 T.C.x, .int .i64 T.C.y]]) w1 := hen;clear HR hg1 hs1 hen hperm hw Hc Bn hD hD1;go_wp2_with fail;refine zA2 fun W2 hW => ?_;have Be : Box W2 w1.heap.size [.int .i64 u.x, .int .i64 u.y, .int .i64 x.x, .int .i64 x.y] 101 := by rw [hW]; exact (Box.new rfl).old _
   have Bt : Box W2 (w1.heap.size + 1) [.int .i64 T.A.x, .int .i64 T.A.y, .int .i64 T.B.x, .int .i64 T.B.y, .int .i64 T.C.x, .int .i64 T.C.y] 43 := by rw [hW]; exact Box.new (by simp)
   have hw2 : Below w1.heap.size w1 W2 := by rw [hW]; go_grown
   clear hW;have Bn2 := Bn1.ee hw2;have Hc2 := Hc1.ee hw2;have HR2 := HR1.ee hw2;have hwx := (upB hw1 hw2);have HL2 := Lib.hid (show W2.rangeLeft b (w.heap.size + 2) < wr.rangeLeft b (w.heap.size + 2) by rw [zAg HR2, ← zAg HR1]; exact HL.out);clear Bn1 Hc1 HR1 hw1 hw2 HL hen2;have g_et := J2 Be.cells Bt.cells;have gn := Bn2.cells;refine wrt 6 (by kernel_rfl) (by kernel_rfl) ?_;simp only [tK1, tK0, dP1, dP0];repeat (first | (refine zA0 (Eq.refl false) ?_; simp only [Act.put, sT2, sT1, sT0]) | (refine rWalk_step (fun K hK => ?_); go_simp; refine hK _ ?_; clear hK K))
   refine rWalk_nil ?_;intro w3 hb;clear g_et gn;have Bn3 := Bn2.ee hb;have Hc3 := Hc2.ee hb;have HR3 := HR2.ee hb;have hw3 := (upB hwx hb);have HL3 := Lib.hid (show w3.rangeLeft b (w.heap.size + 2) < wr.rangeLeft b (w.heap.size + 2) by rw [zAg HR3, ← zAg HR2]; exact HL2.out);clear hb Be Bt Bn2 Hc2 HR2 hwx HL2;refine zBd _ rfl _ _ _ rfl kvR rfl Hc3 (u, x) T rfl rfl hk ?_;intro w4 Hc4 hg4 hs4;have hbl : b ≠ w.heap.size := Nat.ne_of_lt (Hm.lt);have HR4 := HR3.kept hg4 (fun e => hbl (Option.some.inj e)) (fun e => by have := Option.some.inj e; omega);have Bn4 := Bn3.turn Hc3 hg4;have hw4 := zAi hw3 hg4 hw3.size (Nat.le_refl _);have HL4 := Lib.hid (show w4.rangeLeft b (w.heap.size + 2) < wr.rangeLeft b (w.heap.size + 2) by rw [zAg HR4, ← zAg HR3]; exact HL3.out);have Hc5 := Hc4.perm hkc.out;clear Hc3 HR3 Bn3 hw3 HL3 hg4 hs4 Hc4 hbl;simp only [Act.put];go_wp2
   go_roundw
   case rel => exact ⟨D ++ [((u, x), T)], R', hD2, Hc5, Bn4, HR4, hw4⟩
   case measure => exact HL4.out
end Go.Proofs.YtjkfakaehjmnbaaGreat
namespace Go.Proofs.YtjkfakaehjmnbaaGreat
open Go.RowKit
theorem Box.grown_ne {w w' : World} {x r : Nat} {cs : List Value} {T : TypeId} (h : Box w x cs T) (hg : w.grownBy w' (some r)) (hx : x ≠ r) : Box w' x cs T := by
 have hl := h.lt;unfold Box at *;rw [hg.block x hl (fun e => hx (Option.some.inj e))]; exact h
structure TwoM (w : World) (cb mb rb m2 b2 db : Nat) (s : Int) (E D : Es) : Prop where
 cbox : Box w cb [.int .i64 s, .int .i64 s, .pointer (some ⟨mb, 0, none⟩), .pointer (some ⟨db, 0, none⟩)] 39
 mbox : Box w mb [.map (some rb)] 54
 mmap : HoldsMap eW eT okW w rb D
 pbox : Box w m2 [.map (some b2)] 98
 pmap : HoldsMap eW eT okW w b2 E
 ne : rb ≠ b2
 cm : cb ≠ mb
 mm : m2 ≠ mb
section
variable {w w' : World} {cb mb rb m2 b2 db n : Nat} {s : Int} {E D : Es} (S : TwoM w cb mb rb m2 b2 db s E D)
include S
theorem TwoM.ext (hb : Below n w w') (hn : n = w.heap.size) : TwoM w' cb mb rb m2 b2 db s E D :=
 ⟨S.cbox.ext hb hn, S.mbox.ext hb hn, S.mmap.ext hb hn, S.pbox.ext hb hn, S.pmap.ext hb hn, S.ne, S.cm, S.mm⟩
theorem TwoM.ee (hb : Below w.heap.size w w') : TwoM w' cb mb rb m2 b2 db s E D := S.ext hb rfl
theorem TwoM.own {E' : Es} (hg : w.grownBy w' (some b2)) (H : HoldsMap eW eT okW w' b2 E') : TwoM w' cb mb rb m2 b2 db s E' D :=
 ⟨S.cbox.turn S.pmap hg, S.mbox.turn S.pmap hg, S.mmap.kept hg (fun e => S.ne (Option.some.inj e)), S.pbox.turn S.pmap hg, H, S.ne, S.cm, S.mm⟩
theorem TwoM.docs {D' : Es} (hg : w.grownBy w' (some rb)) (H : HoldsMap eW eT okW w' rb D') : TwoM w' cb mb rb m2 b2 db s E D' :=
 ⟨S.cbox.turn S.mmap hg, S.mbox.turn S.mmap hg, H, S.pbox.turn S.mmap hg, S.pmap.kept hg (fun e => S.ne (Option.some.inj e).symm), S.ne, S.cm, S.mm⟩
theorem TwoM.laid {D' : Es} {rb' : Nat} (hg : w.grownBy w' (some mb)) (B : Box w' mb [.map (some rb')] 54) (H : HoldsMap eW eT okW w' rb' D') (hr : w.heap.size ≤ rb') : TwoM w' cb mb rb' m2 b2 db s E D' :=
 ⟨S.cbox.grown_ne hg S.cm, B, H, S.pbox.grown_ne hg S.mm, S.pmap.kept hg (fun e => S.mbox.ne_map S.pmap (Option.some.inj e).symm), fun e => by have := S.pmap.lt; omega, S.cm, S.mm⟩
end
theorem FlipC.len {E : Es} {L L' : List Tri3} {p q : Pt} {r : Int} (h : FlipC E L p q r L') : L'.length ≤ L.length + 2 := by
 have hr : ∀ {L1 L2 : List Tri3}, L2.length = 2 → Repl E L L1 L2 r L' → L'.length ≤ L.length + 2 := by
  intro L1 L2 h2 h;rcases h with ⟨_, _, h⟩ | ⟨_, _, _, h⟩ | ⟨_, _, _, M, p1, p2⟩
  ·rw [h.length_eq]; omega
  ·rw [h.length_eq]; omega
  ·rw [p2.length_eq, p1.length_eq, List.length_append, List.length_append]; omega
 rcases h with ⟨_, _, h⟩ | ⟨S, R, _, _, ⟨_, _, h⟩ | ⟨_, h⟩⟩
 ·rw [h.length_eq]; omega
 ·rw [h.length_eq]; omega
 ·exact hr rfl h
theorem Repl.len {E : Es} {L L1 L2 L' : List Tri3} {r : Int} (h : Repl E L L1 L2 r L') : L'.length ≤ L.length + L2.length := by
 rcases h with ⟨_, _, h⟩ | ⟨_, _, _, h⟩ | ⟨_, _, _, M, p1, p2⟩
 ·rw [h.length_eq]; omega
 ·rw [h.length_eq]; omega
 ·rw [p2.length_eq, p1.length_eq, List.length_append, List.length_append]; omega
theorem zGl {w w' : World} {cb mb rb m2 b2 db n1 n2 : Nat} {s : Int} {E E3 D : Es} {L L1 L2 L3 : List Tri3} {r : Int} {e : Ending} (S : TwoM w cb mb rb m2 b2 db s E3 D) (g : Good E L) (hP : D.Perm E) (R : Repl E L L1 L2 r L3) (hn1 : L1.length = n1) (hn2 : L2.length = n2) (h : RReplPost w mb D n1 n2 L1 L2 e w') :
    e = .returned (.int .i64 r) ∧ ∃ rb' D', TwoM w' cb mb rb' m2 b2 db s E3 D' ∧ Good D' L3 ∧ (rb' = rb ∨ w.heap.size ≤ rb') ∧ (∀ w0 : World, Below w0.heap.size w0 w → w0.heap.size ≤ mb → Below w0.heap.size w0 w') := by
 obtain ⟨F, pF, h⟩ := h;have gD := g.same hP;have hR := repl_doc g (pF.trans hP) R;rcases h with ⟨h1, rfl, hb⟩ | ⟨h1, h2, rfl, hb⟩ | ⟨h1, h2, rfl, hg, b', hB, hH, hb⟩
 ·rcases hR with ⟨rfl, _, p⟩ | ⟨rfl, k1, _, _⟩ | ⟨rfl, k1, _, _⟩
  ·exact ⟨rfl, rb, D, S.ee hb, gD.order p.symm, .inl rfl, fun w0 k _ => (upB k hb)⟩
  ·omega
  ·omega
 ·rcases hR with ⟨rfl, k1, _⟩ | ⟨rfl, k1, k2, p⟩ | ⟨rfl, k1, k2, _⟩
  ·omega
  ·exact ⟨rfl, rb, D, S.ee hb, gD.order p.symm, .inl rfl, fun w0 k _ => (upB k hb)⟩
  ·omega
 ·rcases hR with ⟨rfl, k1, _⟩ | ⟨rfl, k1, k2, _⟩ | ⟨rfl, k1, k2, gF⟩
  ·omega
  ·omega
  ·exact ⟨rfl, b', _, S.laid hg hB hH hb, gF, .inr hb, fun w0 k hm => zAi k hg k.size hm⟩
theorem zF9 {w w' : World} {cb mb rb m2 b2 db n1 n2 : Nat} {s : Int} {E E3 D : Es} {L L1 L2 L3 : List Tri3} {r : Int} {e : Ending} (S : TwoM w cb mb rb m2 b2 db s E3 D) (g : Good E L) (hP : D.Perm E) (R : Repl E L L1 L2 r L3) (hn1 : L1.length = n1) (hn2 : L2.length = n2) (h : RReplPost w mb D n1 n2 L1 L2 e w') :
    e = .returned (.int .i64 r) ∧ ∃ rb' D', TwoM w' cb mb rb' m2 b2 db s E3 D' ∧ Good D' L3 ∧ (rb' = rb ∨ w.heap.size ≤ rb') ∧ (∀ w0 : World, Below w0.heap.size w0 w → w0.heap.size ≤ mb → Below w0.heap.size w0 w') ∧ ∀ (x : Nat) (cs : List Value) (T : TypeId), Box w x cs T → x ≠ mb → Box w' x cs T := by
 obtain ⟨h1, rb', D', h2, h3, h4, h5⟩ := zGl S g hP R hn1 hn2 h;refine ⟨h1, rb', D', h2, h3, h4, h5, fun x cs T hx hm => ?_⟩;obtain ⟨F, _, ⟨_, _, hb⟩ | ⟨_, _, _, hb⟩ | ⟨_, _, _, hg, _⟩⟩ := h
 ·exact hx.ee hb
 ·exact hx.ee hb
 ·exact hx.grown_ne hg hm
end Go.Proofs.YtjkfakaehjmnbaaGreat
namespace Go.Proofs.YtjkfakaehjmnbaaGreat
open Go.RowKit Go.Sort
attribute [local go_sem] rOper rAt rUpon cell_set sg_i64 sg_u64 alloc_cell alloc_frozen
attribute [local go_sem 10000] pt_eql pt_neq tri_eql
attribute [local irreducible] rWalk
theorem nlen  (w : World) :
    Calls Tryz.prog 14 #[.pointer none] w fun e w' => e = .returned (.int .i64 0) ∧ Below w.heap.size w w' := by
 go_enter Tryz.func14, Tryz.ntmps14
 go_wp2_with fail
 go_ret
 exact ⟨rfl, Below.refl _ _⟩
theorem nleft (p q : Pt) (w : World) :
    Calls Tryz.prog 36 #[.pointer none, .agg #[.int .i64 p.x, .int .i64 p.y], .agg #[.int .i64 q.x, .int .i64 q.y]] w fun e w' => e = .returned (.tuple #[.agg #[.int .i64 0, .int .i64 0, .int .i64 0, .int .i64 0, .int .i64 0, .int .i64 0], .bool false]) ∧ Below w.heap.size w w' := by
 go_enter Tryz.func36, Tryz.ntmps36
 go_wp2_with fail;refine bodyPost_ret (v := .tuple #[.agg #[.int .i64 0, .int .i64 0, .int .i64 0, .int .i64 0, .int .i64 0, .int .i64 0], .bool false]) (by simp [results, Tryz.results36, go_sem]) rfl ⟨rfl, by go_grown⟩
theorem nhas (T : Tri3) (w : World) :
    Calls Tryz.prog 45 #[.pointer none, .agg #[.int .i64 T.A.x, .int .i64 T.A.y, .int .i64 T.B.x, .int .i64 T.B.y, .int .i64 T.C.x, .int .i64 T.C.y]] w fun e w' => e = .returned (.bool false) ∧ Below w.heap.size w w' := by
 go_enter Tryz.func45, Tryz.ntmps45
 go_wp2_with fail;refine zA1 fun W1 hW => ?_;obtain ⟨Bt, hw⟩ := N1 hW;clear hW;refine (nleft T.A T.B _).mono ?_;rintro e w2 ⟨rfl, hb⟩;obtain ⟨Bt, hw, Ft⟩ := X1 Bt hw hb;clear hb;go_wp2
 go_ret
 exact ⟨rfl, by have hl := hw.size; go_grown⟩
theorem nflip (p q : Pt) (w : World) :
    Calls Tryz.prog 17 #[.pointer none, .agg #[.int .i64 p.x, .int .i64 p.y], .agg #[.int .i64 q.x, .int .i64 q.y]] w fun e w' => e = .returned (.int .i64 16) ∧ Below w.heap.size w w' := by
 go_enter Tryz.func17, Tryz.ntmps17
 go_wp2_with fail;refine zA1 fun W1 hW => ?_;obtain ⟨Bp, Bq, hw⟩ := N2 hW;clear hW;refine (nleft p q _).mono ?_;rintro e w2 ⟨rfl, hb⟩;obtain ⟨Bp, Bq, hw, F_pq⟩ := X2 Bp Bq hw hb;clear hb;go_wp2
 go_ret
 exact ⟨rfl, by have hl := hw.size; go_grown⟩
abbrev awZ : Tri3 := ⟨⟨0, 0⟩, ⟨0, 0⟩, ⟨0, 0⟩⟩
abbrev awS : Tri3 := ⟨⟨0, 0⟩, ⟨1, 0⟩, ⟨1, 1⟩⟩
abbrev awT : Tri3 := ⟨⟨0, 0⟩, ⟨1, 1⟩, ⟨0, 1⟩⟩
abbrev awU : Tri3 := mk ⟨0, 1⟩ ⟨0, 0⟩ ⟨1, 0⟩
abbrev awV : Tri3 := mk ⟨1, 0⟩ ⟨1, 1⟩ ⟨0, 1⟩
def awE : Es := (putRun [] [awT, awS]).2
def awF : Es := (putRun (takeRun awE [awT, awS]).2 [awU, awV]).2
theorem aw_f1 : (putRun [] [awT, awS]).1 = 2 := by decide
theorem aw_f2 : (putRun [] [awS, awS]).1 < 2 := by decide
theorem aw_f3 : (putRun [] [awZ]).1 < 1 := by decide
theorem aw_f4 : srt cmpT (heads (fun _ => true) awE) = [awS, awT] := by
 unfold srt; rw [show heads (fun _ => true) awE = [awS, awT] by kernel_rfl]; exact List.mergeSort_of_pairwise (by decide)
theorem aw_f5 : acrE awE awS 2 = (awT, true) := by kernel_rfl
theorem aw_f6 : acrE awE awS 0 = (awZ, false) := by kernel_rfl
theorem aw_f7 : getE awE (⟨0, 0⟩, ⟨1, 1⟩) = some awT := by kernel_rfl
theorem aw_f8 : getE awE (⟨1, 1⟩, ⟨0, 0⟩) = some awS := by kernel_rfl
theorem aw_f9 : apx awT ⟨0, 0⟩ ⟨1, 1⟩ = ⟨0, 1⟩ := by kernel_rfl
theorem aw_f10 : apx awS ⟨0, 0⟩ ⟨1, 1⟩ = ⟨1, 0⟩ := by kernel_rfl
theorem aw_f11 : meetS ⟨0, 0⟩ ⟨1, 1⟩ ⟨0, 1⟩ ⟨1, 0⟩ = 1 := by kernel_rfl
theorem aw_f12 : (takeRun awE [awT, awS]).1 = 2 := by kernel_rfl
theorem aw_f13 : (putRun (takeRun awE [awT, awS]).2 [awU, awV]).1 = 2 := by kernel_rfl
theorem aw_f14 : getE awF (⟨0, 0⟩, ⟨1, 1⟩) = none := by kernel_rfl
theorem aw_f15 : hasE awF awS = false := by kernel_rfl
theorem aw_f16 : awF.length = 3 * 2 := by kernel_rfl
theorem aw_f17 : awE.length ≤ 1000000 := by rw [show awE.length = 6 by kernel_rfl]; decide
theorem aw_f18 {Mz : List Pt} (h : Rising cmpP Mz) (hm : ∀ p, p ∈ Mz ↔ p ∈ froms awF) : Mz.length = 4 := by
 have e : Mz = [⟨0, 0⟩, ⟨0, 1⟩, ⟨1, 0⟩, ⟨1, 1⟩] := zCq wholeP h (by unfold Rising; decide) (fun p => by
  rw [hm p, show froms awF = froms awF from rfl];constructor
  ·exact (show ∀ x ∈ froms awF, x ∈ ([⟨0, 0⟩, ⟨0, 1⟩, ⟨1, 0⟩, ⟨1, 1⟩] : List Pt) by decide) p
  ·exact (show ∀ x ∈ ([⟨0, 0⟩, ⟨0, 1⟩, ⟨1, 0⟩, ⟨1, 1⟩] : List Pt), x ∈ froms awF by decide) p)
 rw [e]; rfl
end Go.Proofs.YtjkfakaehjmnbaaGreat
namespace Go.Proofs.YtjkfakaehjmnbaaGreat
open Go.RowKit Go.Sort
section
variable {P : Program} {ops : Array Oper} {md : Region.Mode} {C : World → Prop}
def doneB (n : Nat) (listed : Array Bool) : Bool := (List.range n).all fun i => listed.getD i false
def seqL (md : Region.Mode) (ops : Array Oper) : List Nat → Array Bool → Bool
 | [], listed => (Region.ready md ops listed).isEmpty
 | k :: js, listed => decide (Region.ready md ops listed = [k]) && seqL md ops js (listed.setIfInBounds k true)
theorem zEf {Q : Exit → Act → World → Prop} : ∀ (js : List Nat) (l : List Oper) (listed : Array Bool) (a : Act) (w : World), js.map (fun j => ops[j]?) = l.map some →
    seqL md ops js listed = true → wpList P ops Q l a w → wpAny P md ops Q js.length listed a w
 | [], [], _, _, _, _, hB, h => ⟨by simpa [seqL] using hB, h⟩
 | [], _ :: _, _, _, _, hl, _, _ => by cases hl
 | _ :: _, [], _, _, _, hl, _, _ => by cases hl
 | k :: js, o :: l, listed, a, w, hl, hB, h => by
  simp only [List.map_cons, List.cons.injEq] at hl;obtain ⟨h0, hl⟩ := hl;simp only [seqL, Bool.and_eq_true, decide_eq_true_eq] at hB;refine ⟨fun h1 => (by rw [hB.1] at h1; cases h1), fun i hi => ?_⟩;rw [hB.1] at hi;have hik : i = k := by simpa using hi
  subst hik;have hw : wpOp P ops Q i (wpList P ops Q l) a w := by unfold wpOp; simp only [h0]; exact h
  exact wpOp_mono (fun a' w' h' => zEf js l _ a' w' hl hB.2 h') hw
end
def orderPre (md : Region.Mode) (ops : Array Oper) (n : Nat) : List Nat → Array Bool → Bool
 | [], _ => true
 | k :: is, listed => decide (k < n) && (Region.ready md ops listed).contains k && Region.free md ops listed k && orderPre md ops n is (listed.setIfInBounds k true)
def listAll : List Nat → Array Bool → Array Bool
 | [], l => l
 | k :: is, l => listAll is (l.setIfInBounds k true)
section
variable {P : Program} {C : World → Prop}
end
section
variable {P : Program} {ops : Array Oper} {md : Region.Mode} {C : World → Prop}
def downB (md : Region.Mode) (ops : Array Oper) (n : Nat) : Bool :=
 (List.range ops.size).all fun t => decide (t ≤ n) || (List.range ops.size).any fun j => decide (n ≤ j) && Region.waitsFor md ops t j
theorem zHo {n : Nat} {listed : Array Bool} (hs : Region.sinkB md ops n = true) (hd : downB md ops n = true) (hn : n < ops.size) (inv : HeadInv md ops n listed) : TailWaits md ops n listed := by
 intro i hi hun t ht hr;obtain ⟨_, ot, hot, hall⟩ := mem_ready.1 hr;have htlt : t < ops.size := (Array.getElem?_eq_some_iff.1 hot).1;by_cases htn : t = n
 ·subst htn;have low : ∀ (d i : Nat), t - i = d → i < t → listed.getD i true = false → False := by
   intro d;induction d using Nat.strongRecOn with
   | _ d ih =>
    intro i hd' hi hun;have h1 := List.all_eq_true.1 hs i (List.mem_range.2 hi);obtain ⟨j, hj, h2⟩ := List.any_eq_true.1 h1;have hj' := List.mem_range.1 hj;simp only [Bool.and_eq_true, decide_eq_true_eq] at h2;obtain ⟨hij, hw⟩ := h2;unfold Region.waitsFor at hw;cases hoj : ops[j]? with
    | none => rw [hoj] at hw; cases hw
    | some oj =>
     rw [hoj] at hw;obtain ⟨e, he, hb⟩ := Array.any_eq_true'.1 hw;simp only [Bool.and_eq_true, beq_iff_eq] at hb;by_cases hjt : j = t
     ·subst hjt;have : ot = oj := Option.some.inj (hot.symm.trans hoj);subst this;have h3 := hall e he (by first | exact hb.1 | exact hb.2);have h4 : e.on = i := by first | exact hb.2 | exact hb.1
      rw [h4, getD_both hun] at h3; cases h3
     ·refine ih (t - j) (by omega) j rfl (by omega) ?_;cases hl : listed.getD j true with
      | false => rfl
      | true =>
       have hjs : j < listed.size := by rw [inv.size]; omega
       have hl' : listed.getD j false = true := by simpa [hjs] using hl
       have h3 := inv.closed j oj hoj hl' e he (by first | exact hb.1 | exact hb.2);have h4 : e.on = i := by first | exact hb.2 | exact hb.1
       rw [h4, getD_both hun] at h3; cases h3
  exact low _ i rfl hi hun
 ·have h1 := List.all_eq_true.1 hd t (List.mem_range.2 htlt);simp only [Bool.or_eq_true, decide_eq_true_eq] at h1;rcases h1 with h1 | h1
  ·omega
  ·obtain ⟨j, hj, h2⟩ := List.any_eq_true.1 h1;simp only [Bool.and_eq_true, decide_eq_true_eq] at h2;obtain ⟨hnj, hw⟩ := h2;unfold Region.waitsFor at hw;rw [hot] at hw;obtain ⟨e, he, hb⟩ := Array.any_eq_true'.1 hw;simp only [Bool.and_eq_true, beq_iff_eq] at hb;have h3 := hall e he (by first | exact hb.1 | exact hb.2);have h4 : e.on = j := by first | exact hb.2 | exact hb.1
   rw [h4, getD_both (inv.tail j hnj (List.mem_range.1 hj))] at h3; cases h3
theorem zEk {n : Nat} {S : Array Bool → Bool} : ∀ (is js : List Nat) (l : Array Bool), orderPre md ops n is l = true → orderG md ops n S js (listAll is l) = true → orderG md ops n S (is ++ js) l = true
 | [], _, _, _, h => h
 | k :: is, js, l, h1, h2 => by
  simp only [orderPre, Bool.and_eq_true] at h1;simp only [List.cons_append, orderG, Bool.and_eq_true];exact ⟨h1.1, zEk is js _ h1.2 h2⟩
def orderInG (md : Region.Mode) (ops : Array Oper) (n : Nat) : List (List Nat) → Array Bool → Prop
 | [], _ => True
 | is :: cs, l => orderPre md ops n is l = true ∧ orderInG md ops n cs (listAll is l)
theorem zDh {n : Nat} {S : Array Bool → Bool} : ∀ (cs : List (List Nat)) (l : Array Bool), orderInG md ops n cs l → S (listAll cs.flatten l) = true → orderG md ops n S cs.flatten l = true
 | [], _, _, h => h
 | is :: cs, l, h, hS => by
  rw [List.flatten_cons];refine zEk is _ l h.1 (zDh cs _ h.2 ?_);rw [List.flatten_cons, show ∀ (is js : List Nat) (l : Array Bool), listAll (is ++ js) l = listAll js (listAll is l) from fun is => by
   induction is with
   | nil => intro js l; rfl
   | cons k is ih => intro js l; exact ih js _] at hS
  exact hS
theorem zG9 {n : Nat} : ∀ (is : List Nat) (l : Array Bool), HeadInv md ops n l → orderPre md ops n is l = true → HeadInv md ops n (listAll is l)
 | [], _, h, _ => h
 | k :: is, l, h, hB => by
  simp only [orderPre, Bool.and_eq_true, decide_eq_true_eq] at hB;exact zG9 is _ (h.set (by simpa using hB.1.1.2) hB.1.1.1) hB.2
theorem zDv : ∀ (is js : List Nat) (l : Array Bool), listAll (is ++ js) l = listAll js (listAll is l)
 | [], _, _ => rfl
 | _ :: is, js, _ => zDv is js _
theorem zHh {n : Nat} : ∀ (cs : List (List Nat)) (l : Array Bool), HeadInv md ops n l → orderInG md ops n cs l → HeadInv md ops n (listAll cs.flatten l)
 | [], _, h, _ => h
 | is :: cs, l, h, hB => by
  rw [List.flatten_cons, zDv];exact zHh cs _ (zG9 is l h hB.1) hB.2
def canon (ops : Array Oper) (n : Nat) : Array Bool := listAll (List.range n) (Array.replicate ops.size false)
theorem wp_region_once {id : Nat} {Q : Exit → Act → World → Prop} {a : Act} {w : World} {l : List Oper} (n1 n2 : Nat) (c1 c2 : List (List Nat)) (js : List Nat) {o : Oper} (hm : P.follows .mixedOrders = true)
    (hsel : Region.noSelect l.toArray = true) (hn : n1 + (((n2 - (n1 + 1)) + js.length) + 1) = l.toArray.size) (hn2 : n1 < n2) (hn3 : n2 < l.toArray.size)
    (hs1 : Region.sinkB .any l.toArray n1 = true) (hd1 : downB .any l.toArray n1 = true) (hs2 : Region.sinkB .any l.toArray n2 = true) (hd2 : downB .any l.toArray n2 = true)
    (hc1 : c1.flatten = List.range n1) (hc2 : c2.flatten = List.range' (n1 + 1) (n2 - (n1 + 1)))
    (ho1 : orderInG .any l.toArray n1 c1 (Array.replicate l.toArray.size false)) (hmid : (doneB n1 (canon l.toArray n1) && decide (Region.ready .any l.toArray (canon l.toArray n1) = [n1])) = true)
    (ho2 : orderInG .any l.toArray n2 c2 ((canon l.toArray n1).setIfInBounds n1 true))
    (hend : (doneB n2 (listAll (List.range' (n1 + 1) (n2 - (n1 + 1))) ((canon l.toArray n1).setIfInBounds n1 true)) && seqL .any l.toArray js (listAll (List.range' (n1 + 1) (n2 - (n1 + 1))) ((canon l.toArray n1).setIfInBounds n1 true))) = true)
    (hf : l.toArray[n1]? = some o) (hjs : js.map (fun j => l.toArray[j]?) = (l.drop n2).map some)
    (h1 : (List.range n1).map (fun i => l.toArray[i]?) = (l.take n1).map some) (h2 : (List.range' (n1 + 1) (n2 - (n1 + 1))).map (fun i => l.toArray[i]?) = ((l.drop (n1 + 1)).take (n2 - (n1 + 1))).map some)
    (hC : ∀ w', Below w.heap.size w w' → C w')
    (h : rWalk P l.toArray C (fun a1 => Region.wanted o (yielded l.toArray a1.tmps) = true ∧ ∀ w', Below w.heap.size w w' → o.wp P a1 w' (fun a2 w2 => Below w.heap.size w w2 ∧ rWalk P l.toArray C (fun a3 => ∀ w', Below w.heap.size w w' → wpList P l.toArray Q (l.drop n2) a3 w') ((l.drop (n1 + 1)).take (n2 - (n1 + 1))) a2) Q) (l.take n1) a) : (Code.region id l.toArray true).wp P Q a w := by
 simp only [Bool.and_eq_true, decide_eq_true_eq] at hmid;have inv1 : HeadInv .any l.toArray n1 (canon l.toArray n1) := by
  have := zHh c1 _ (headInv0 (md := .any) (ops := l.toArray) (n := n1)) ho1
  rwa [hc1] at this
 have inv2 : HeadInv .any l.toArray n2 ((canon l.toArray n1).setIfInBounds n1 true) :=
  HeadInv.set (n := n2) ⟨inv1.size, inv1.closed, fun t ht ht' => inv1.tail t (by omega) ht'⟩ (by rw [hmid.2]; simp) hn2
 have H := zE5 (md := .any) (C := C) (S := fun m => decide (m = canon l.toArray n1 ∧ True)) hsel (HeadInv .any l.toArray n1) (fun listed j inv hj hjn => inv.set hj hjn)
  (fun listed inv => zHo hs1 hd1 (by omega) inv)
  (fun listed hS => by have := of_decide_eq_true hS; rw [this.1]; exact zDy hmid.1) (List.range n1) (l.take n1) _ a h1 headInv0 (by rw [← hc1]; exact zDh c1 _ ho1 (by rw [hc1]; exact decide_eq_true ⟨rfl, trivial⟩)) h
 refine wp_region_any hm ?_;have := zGm (md := .any) (Q := Q) (g := ((n2 - (n1 + 1)) + js.length) + 1) (D := fun w' => Below w.heap.size w w') hC (fun a b ha hb => Ext.trans (a := w) ha hb)
  (fun listed a1 w1 hw1 hL => by
   obtain ⟨hS, hwa, hy⟩ := hL;have hS := (of_decide_eq_true hS).1;subst hS;refine ⟨fun h1 => (by rw [hmid.2] at h1; cases h1), fun i hi => ?_⟩;rw [hmid.2] at hi;have hik : i = n1 := by simpa using hi
   subst hik;unfold wpOp;simp only [hf, hwa, if_true];refine Or.inl (Oper.wp_mono (fun a2 w2 hK => ?_) (hy w1 hw1));obtain ⟨hw2, hK⟩ := hK;have H2 := zE5 (md := .any) (C := C) (S := fun m => doneB n2 m && seqL .any l.toArray js m) hsel (HeadInv .any l.toArray n2) (fun listed j inv hj hjn => inv.set hj hjn)
    (fun listed inv => zHo hs2 hd2 hn3 inv)
    (fun listed hS => zDy (by simp only [Bool.and_eq_true] at hS; exact hS.1)) (List.range' (i + 1) (n2 - (i + 1))) ((l.drop (i + 1)).take (n2 - (i + 1))) _ _ h2 inv2 (by rw [← hc2]; exact zDh c2 _ ho2 (by rw [hc2]; exact hend)) hK
   have := zGm (md := .any) (Q := Q) (g := js.length) (D := fun w' => Below w.heap.size w w') hC (fun a b ha hb => Ext.trans (a := w) ha hb)
    (fun listed a3 w3 hw3 hL => by
     obtain ⟨hS, hK⟩ := hL;simp only [Bool.and_eq_true] at hS;exact zEf js _ listed a3 w3 hjs hS.2 (hK w3 hw3)) _ _ _ w2 hw2 H2
   rw [List.length_range'] at this;exact this) _ _ _ { w with drawn := w.drawn + 1 } ⟨rfl, rfl, rfl, Nat.le_refl _, fun _ _ => rfl⟩ H
 rw [List.length_range, hn] at this;exact this
end
attribute [local go_sem] rOper rAt rUpon cell_set sg_i64 sg_u64 alloc_cell alloc_frozen
attribute [local go_sem 10000] pt_eql pt_neq tri_eql
attribute [local irreducible] rWalk
attribute [local go_sem 10000] tri_neq
theorem okT_aw : okT awS ∧ okT awT ∧ okT awZ ∧ okT awU ∧ okT awV := by
 simp only [awU, awV, show mk ⟨0, 1⟩ ⟨0, 0⟩ ⟨1, 0⟩ = ⟨⟨0, 0⟩, ⟨1, 0⟩, ⟨0, 1⟩⟩ by kernel_rfl, show mk ⟨1, 0⟩ ⟨1, 1⟩ ⟨0, 1⟩ = ⟨⟨0, 1⟩, ⟨1, 0⟩, ⟨1, 1⟩⟩ by kernel_rfl];unfold okT okP okI; decide
theorem zBs (w : World) :
    Calls Tryz.prog 8 #[] w fun e w' => e = .returned (.bool true) ∧ Below w.heap.size w w' := by
 go_enter Tryz.func8, Tryz.ntmps8
 obtain ⟨oS, oT, oZ, oU, oV⟩ := okT_aw;have cn1 := fun a w R => mnew_1 a 2 2 [awT, awS] (Lib.hid rfl) (by decide) (by simpa using ⟨oT, oS⟩) aw_f1 w R;have cn2 := fun a w R => mnew_0 a 2 2 [awS, awS] (Lib.hid rfl) (by decide) (by simpa using oS) aw_f2 w R;have cn3 := fun a w R => mnew_0 a 1 1 [awZ] (Lib.hid rfl) (by decide) (by simpa using oZ) aw_f3 w R;go_wp2_with fail;refine zA1 fun W1 hW => ?_;obtain ⟨Bs, Bt, Bl1, hw⟩ := N3 hW;clear hW;have R1 : RowAt cT 6 W1 (some ⟨w.heap.size + 1 + 1, 0, none⟩) [awT, awS] := zAt (S := [awT, awS]) Bl1;refine (cn1 _ _ R1).mono ?_;rintro e w2 ⟨mb, b, rfl, Bm, Hm0, hbb, hmb, hb⟩;have hwb : w.heap.size ≤ b := Nat.le_trans hw.size hbb;clear R1 Bl1 cn1 hbb hmb;replace Bs := Bs.ee hb;replace Bt := Bt.ee hb;have hw0 := (upB hw hb);clear hb hw;have Hm : HoldsMap eW eT okW w2 b awE := Hm0;clear Hm0;have hw : Below w2.heap.size w2 w2 := Below.refl _ _;have Fs := Bs.f;have Ft := Bt.f;go_wp2_with fail;clear Fs Ft;refine zA1 fun W21 hW => ?_;obtain ⟨bkl2, hbl2⟩ : ∃ b, w2.heap.size = b := ⟨_, rfl⟩;rw [hbl2];obtain ⟨lsl2, ltl2, fl2, Bl2, Bs, Bt, hw⟩ := M2 hW hbl2 Bs Bt hw;clear hW hbl2;refine (cn2 _ _ (zAt (S := [awS, awS]) Bl2)).mono ?_;rintro e w22 ⟨rfl, hb⟩;obtain ⟨Bs, Bt, Bl2, hw, -⟩ := X3 Bs Bt Bl2 hw hb;clear hb;clear Bl2 cn2;have Fs := Bs.f;have Ft := Bt.f;go_wp2_with fail;clear Fs Ft;refine zA1 fun W23 hW => ?_;obtain ⟨bkl3, hbl3⟩ : ∃ b, w22.heap.size = b := ⟨_, rfl⟩;rw [hbl3];obtain ⟨lsl3, ltl3, fl3, Bl3, Bs, Bt, hw⟩ := M2 hW hbl3 Bs Bt hw;clear hW hbl3;refine (cn3 _ _ (zAt (S := [awZ]) Bl3)).mono ?_;rintro e w24 ⟨rfl, hb⟩;obtain ⟨Bs, Bt, Bl3, hw, -⟩ := X3 Bs Bt Bl3 hw hb;clear hb;clear Bl3 cn3;have Fs := Bs.f;have Ft := Bt.f;go_wp2_with fail;have ct := fun w B H => zIf mb b awE aw_f17 w B H;rw [aw_f4] at ct;refine (ct _ (Bm.ee hw) (Hm.ee hw)).mono ?_;rintro e w30 ⟨a, cap, rfl, hr, hb⟩;clear Fs Ft;replace Bs := Bs.ee hb;replace Bt := Bt.ee hb;have hwr := (upB hw hb);replace Bm := Bm.ee hwr;replace Hm := Hm.ee hwr;replace hw0 := upB hw0 hwr;clear hw ct hwr hb;have hw : Below w30.heap.size w30 w30 := Below.refl _ _;have ca2 : ∀ (w : World) (Bm : Box w mb [.map (some b)] 98) (Hm : HoldsMap eW eT okW w b awE), Calls Tryz.prog 44 #[.pointer (some ⟨mb, 0, none⟩), .agg #[.int .i64 0, .int .i64 0, .int .i64 1, .int .i64 0, .int .i64 1, .int .i64 1], .int .i64 2] w fun e w' => e = .returned (.tuple #[.agg #[.int .i64 0, .int .i64 0, .int .i64 1, .int .i64 1, .int .i64 0, .int .i64 1], .bool true]) ∧ Below w.heap.size w w' := fun w B H => by have := zFp mb b awE awS 2 oS w B H; rw [aw_f5] at this; exact this
 have ca0 : ∀ (w : World) (Bm : Box w mb [.map (some b)] 98) (Hm : HoldsMap eW eT okW w b awE), Calls Tryz.prog 44 #[.pointer (some ⟨mb, 0, none⟩), .agg #[.int .i64 0, .int .i64 0, .int .i64 1, .int .i64 0, .int .i64 1, .int .i64 1], .int .i64 0] w fun e w' => e = .returned (.tuple #[.agg #[.int .i64 0, .int .i64 0, .int .i64 0, .int .i64 0, .int .i64 0, .int .i64 0], .bool false]) ∧ Below w.heap.size w w' := fun w B H => by have := zFp mb b awE awS 0 oS w B H; rw [aw_f6] at this; exact this
 have Fs := Bs.f;have Ft := Bt.f;go_wp2_with fail;refine (ca2 _ (Bm.ee hw) (Hm.ee hw)).mono ?_;rintro e w31 ⟨rfl, hb⟩;clear Fs Ft;obtain ⟨Bs, Bt, hw, -⟩ := X2 Bs Bt hw hb;clear hb
 skip
 have Fs := Bs.f;have Ft := Bt.f;go_wp2_with fail;clear Fs Ft;refine zA1 fun W32 hW => ?_;obtain ⟨bkx, hbx⟩ : ∃ b, w31.heap.size = b := ⟨_, rfl⟩;rw [hbx];obtain ⟨lsx, ltx, fx, Bx, Bs, Bt, hw⟩ := M2 hW hbx Bs Bt hw;clear hW hbx;refine (ca0 _ (Bm.ee hw) (Hm.ee hw)).mono ?_;rintro e w33 ⟨rfl, hb⟩;obtain ⟨Bs, Bt, Bx, hw, -⟩ := X3 Bs Bt Bx hw hb;clear hb;have Fs := Bs.f;have Ft := Bt.f;have Fx := Bx.f;go_wp2_with fail;clear Fs Ft Fx;refine zA1 fun W34 hW => ?_;obtain ⟨bky, hby⟩ : ∃ b, w33.heap.size = b := ⟨_, rfl⟩;rw [hby];obtain ⟨lsy, lty, lxy, fy, By, Bs, Bt, Bx, hw⟩ := M3 hW hby Bs Bt Bx hw;clear hW hby;clear ca0 ca2;have cf : ∀ (w : World) (Bm : Box w mb [.map (some b)] 98) (Hm : HoldsMap eW eT okW w b awE), Calls Tryz.prog 17 #[.pointer (some ⟨mb, 0, none⟩), .agg #[.int .i64 0, .int .i64 0], .agg #[.int .i64 1, .int .i64 1]] w fun e w' => e = .returned (.int .i64 0) ∧ w.grownBy w' (some b) ∧ HoldsMap eW eT okW w' b awF := fun w B H => flip_ok mb b awE ⟨0, 0⟩ ⟨1, 1⟩ ⟨oT.1, oT.2.1⟩ awT awS awU awV ⟨0, 1⟩ ⟨1, 0⟩ aw_f7 aw_f8 aw_f9 aw_f10 aw_f11 rfl rfl oT oS oU oV aw_f12 aw_f13 w B H;refine (cf _ (Bm.ee hw) (Hm.ee hw)).mono ?_;rintro e w40 ⟨rfl, hg, H40⟩;replace Bs := Bs.turn (Hm.ee hw) hg;replace Bt := Bt.turn (Hm.ee hw) hg;replace Bx := Bx.turn (Hm.ee hw) hg;replace By := By.turn (Hm.ee hw) hg;replace hr := (hr.ee hw).turn cT_ne (Hm.ee hw) hg;replace Bm := (Bm.ee hw).turn (Hm.ee hw) hg;replace hw0 := upB hw0 hw;replace hw0 := zAi hw0 hg hw0.size hwb;clear Hm hg hw cf hwb;have Hm := H40;clear H40;have hw : Below w40.heap.size w40 w40 := Below.refl _ _;have Fs := Bs.f;have Ft := Bt.f;have Fx := Bx.f;have Fy := By.f;go_wp2_with fail;refine (zKq mb b awF ⟨0, 0⟩ ⟨1, 1⟩ ⟨oT.1, oT.2.1⟩ aw_f14 _ (Bm.ee hw) (Hm.ee hw)).mono ?_;rintro e w41 ⟨rfl, hb⟩;clear Fs Ft Fx Fy;obtain ⟨Bs, Bt, Bx, By, hw, -⟩ := X4 Bs Bt Bx By hw hb;clear hb;obtain ⟨ad, A, rfl, eA, hA0⟩ := hr.six (j := 0) (by decide);have hA1 : Six w40 A awS := hA0;clear hA0 hr;simp only [Nat.zero_mul] at eA;have Fs := Bs.f;have Ft := Bt.f;have Fx := Bx.f;have Fy := By.f;go_wp2_with fail;clear Fs Ft Fx Fy;refine zA2 fun W42 hW => ?_;subst hW;have hA := hA1.ee hw;obtain ⟨t0, t1, t2, t3, t4, t5⟩ := hA.cells;have BM : Box W42 mb [.map (some b)] 98 := Bm.ee hw;have HM : HoldsMap eW eT okW W42 b awF := Hm.ee hw;have dh : ∀ d os, Calls Tryz.prog 45 #[.pointer (some ⟨mb, 0, none⟩), .agg #[.int .i64 0, .int .i64 0, .int .i64 1, .int .i64 0, .int .i64 1, .int .i64 1]] (grow (redrawn W42 d) os) fun e w' => e = .returned (.bool false) ∧ Below (grow (redrawn W42 d) os).heap.size (grow (redrawn W42 d) os) w' := fun d os => by have := zFd mb b awF awS oS _ (BM.ext (below_regrown W42 d os) rfl) (HM.ext (below_regrown W42 d os) rfl); first | exact this | (rw [aw_f15] at this; exact this)
 have dl : ∀ d os, Calls Tryz.prog 14 #[.pointer (some ⟨mb, 0, none⟩)] (grow (redrawn W42 d) os) fun e w' => e = .returned (.int .i64 2) ∧ Below (grow (redrawn W42 d) os).heap.size (grow (redrawn W42 d) os) w' := fun d os => by have := zFc mb b awF 2 (Lib.hid aw_f16) (by decide) _ (BM.ext (below_regrown W42 d os) rfl) (HM.ext (below_regrown W42 d os) rfl); first | exact this | (rw [aw_f15] at this; exact this)
 have nh : ∀ w, Calls Tryz.prog 45 #[.pointer none, .agg #[.int .i64 0, .int .i64 0, .int .i64 1, .int .i64 0, .int .i64 1, .int .i64 1]] w fun e w' => e = .returned (.bool false) ∧ Below w.heap.size w w' := fun w => nhas awS w;have nf : ∀ w, Calls Tryz.prog 17 #[.pointer none, .agg #[.int .i64 0, .int .i64 0], .agg #[.int .i64 1, .int .i64 1]] w fun e w' => e = .returned (.int .i64 16) ∧ Below w.heap.size w w' := fun w => nflip ⟨0, 0⟩ ⟨1, 1⟩ w;have cp := fun w B H => zG6 mb b awF (by rw [aw_f16]; decide) w B H;clear oS oT oZ oU oV hA hA1 Hm Bm;have g_stxy := J4 Bs.cells Bt.cells Bx.cells By.cells;try simp only [List.append]
 refine wp_region_once 51 75 [List.range' 0 16, List.range' 16 16, List.range' 32 16, List.range' 48 3] [List.range' 52 16, List.range' 68 7] [75] (by kernel_rfl) (by as_aux_lemma => kernel_rfl) rfl (by decide) (show 75 < 76 by decide) (by as_aux_lemma => kernel_rfl) (by as_aux_lemma => kernel_rfl) (by as_aux_lemma => kernel_rfl) (by as_aux_lemma => kernel_rfl) rfl rfl ⟨(by as_aux_lemma => kernel_rfl), (by as_aux_lemma => kernel_rfl), (by as_aux_lemma => kernel_rfl), (by as_aux_lemma => kernel_rfl), trivial⟩ (by as_aux_lemma => kernel_rfl) ⟨(by as_aux_lemma => kernel_rfl), (by as_aux_lemma => kernel_rfl), trivial⟩ (by as_aux_lemma => kernel_rfl) rfl rfl (by kernel_rfl) (by kernel_rfl) (C := fun w' => ∃ p : Regrown, w' = grow (redrawn W42 p.d) p.os) rgB ?_;simp only [tK1, tK0, dP1, dP0];repeat (first | (refine zA0 (Eq.refl false) ?_; simp only [Act.put, sT2, sT1, sT0]) | (refine rWalk_step (fun K hK => ?_); go_simp; first | (refine hK _ ?_; clear hK K) | (apply Exists.intro; refine ⟨fun _ => ?_, hK _ ?_⟩; (first | with_reducible exact toExtD dh _ _ | with_reducible exact toExtD dl _ _); clear hK K)))
 refine rWalk_nil ⟨rfl, fun w50 hb => ?_⟩;unfold Oper.wp;go_simp;refine (cp _ (BM.ee hb) (HM.ee hb)).mono ?_;rintro e w51 ⟨M1, a5, cap5, rfl, hr5, hi5, hm5, hb5⟩;have hM := aw_f18 hi5 hm5;rw [hM];clear hM hi5 hm5 hr5;dsimp only;refine ⟨(upB hb hb5), ?_⟩;clear hb hb5;try simp only [Act.put, List.setIfInBounds_toArray, List.set_cons_succ, List.set_cons_zero, List.take_succ_cons, List.take_zero, List.drop_succ_cons, List.drop_zero]
 repeat (first | (refine zA0 (Eq.refl false) ?_; simp only [Act.put, sT2, sT1, sT0]) | (refine rWalk_step (fun K hK => ?_); go_simp; first | (refine hK _ ?_; clear hK K) | (apply Exists.intro; refine ⟨fun _ => ?_, hK _ ?_⟩; (first | with_reducible exact toExt (nlen) _ | with_reducible exact toExt nf _ | with_reducible exact toExt nh _); clear hK K)))
 refine rWalk_nil ?_;intro w60 hb6;go_wp2
 go_ret
 exact ⟨rfl, hw0.trans (((upB hw hb6)).mono hw0.size)⟩
end Go.Proofs.YtjkfakaehjmnbaaGreat
