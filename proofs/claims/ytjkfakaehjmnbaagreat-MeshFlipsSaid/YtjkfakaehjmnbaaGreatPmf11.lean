/- Put together: MesL, CdtA, DocB, WalJ, WalK, WalL, FlowT, WalP, WalS, WalU, WalW. -/
import Derived.Test.YtjkfakaehjmnbaaGreatRows
import Derived.Test.YtjkfakaehjmnbaaGreatPmf6
import Derived.Test.YtjkfakaehjmnbaaGreatPmf10
import Derived.Test.YtjkfakaehjmnbaaGreatPmf1
import Derived.WalkKit
import Derived.WalkSpells
import Derived.WalkLawsBesides
import Derived.Laws.Externs
import Derived.Deep.QuietTactic
import Derived.BigQuiet
import Derived.Lib.Hide
import Derived.Handy
import Derived.OwnWalk
import Derived.Maps.RangeWalk
import Derived.LoopN
import Derived.RegionTactic
import Derived.Test.YtjkfakaehjmnbaaGreatPmf5
import Derived.Test.YtjkfakaehjmnbaaGreatPmf9
import Derived.Test.YtjkfakaehjmnbaaGreatPmf3
import Derived.Deep.AppendLies
import Derived.Shelf.Spec.SlicesInsert
import Derived.Lib.AppendZerosOnto
import Derived.Shelf.RegionOpenPlain
import Derived.Deep.RegionHeld3
import Derived.Test.YtjkfakaehjmnbaaGreatPmf0
set_option maxRecDepth 100000
set_option maxHeartbeats 8000000
namespace Go.Proofs.YtjkfakaehjmnbaaGreat
open Go.RowKit Go.Sort
attribute [local go_sem] rOper rAt rUpon cell_set sg_i64 sg_u64 alloc_cell alloc_frozen
attribute [local go_sem 10000] pt_eql pt_neq tri_eql
attribute [local irreducible] rWalk
def yes : Tri3 → Bool := fun _ => true
theorem zGj (mb b : Nat) (E : Es) (hE : E.length ≤ 1000000) (w : World) (Bm : Box w mb [.map (some b)] 54) (Hm : HoldsMap eW eT okW w b E) :
    Calls Tryz.prog 13 #[.pointer (some ⟨mb, 0, none⟩)] w fun e w' => ∃ a cap, e = .returned (.slice a (srt cmpT (heads (fun _ => true) E)).length cap) ∧ (srt cmpT (heads (fun _ => true) E)).length ≤ cap ∧ RowAt cT 6 w' a (srt cmpT (heads (fun _ => true) E)) ∧ Below w.heap.size w w' := by
 show Calls Tryz.prog 13 #[.pointer (some ⟨mb, 0, none⟩)] w fun e w' => ∃ a cap, e = .returned (.slice a (srt cmpT (heads yes E)).length cap) ∧ (srt cmpT (heads yes E)).length ≤ cap ∧ RowAt cT 6 w' a (srt cmpT (heads yes E)) ∧ Below w.heap.size w w';have Fm := Bm.f
 go_enter Tryz.func13, Tryz.ntmps13
 go_wp2_with (at_range; refine zB7 _ rfl _ rfl kvR rfl Hm ?_)
 intro w0 HR0 hw0 _;clear Fm;go_wp2
 go_loopw [3] (fun v wr => ∃ D R : Es, Hid ((D ++ R).Perm E) ∧ wr.ownsRow w.heap.size 43 6 v (heads yes D).length ((heads yes D).flatMap cT) ∧ Ranging eW eT okW wr b w.heap.size E R ∧ Below w.heap.size w wr) (fun _ wr => wr.rangeLeft b w.heap.size)
 case atStart => exact ⟨[], E, Lib.hid (by simp), World.ownsRow_nil _ _ _ _, HR0, hw0⟩
 case round =>
  clear HR0 hw0;obtain ⟨D, R, hD, hown, HR, hw⟩ := hrel;go_wp2_with (at_next; refine zBe _ rfl _ rfl rfl HR ?_ ?_)
  ·intro hR;subst hR;have hp0 : (heads yes D).Perm (heads yes E) := zCw (by simpa using hD.out);have hle : (heads yes D).length ≤ 1000000 := by have := hp0.length_eq; have := zD5 yes E; omega
   have HS := Lib.hid (wholeT.srt_of_perm hp0);obtain ⟨a1, c1, rfl, hc1, hr1⟩ := zAr zFs hown;have hlen := Lib.hid (show (heads yes D).length = (srt cmpT (heads yes E)).length by rw [← HS.out]; exact (zAo _).length_eq.symm);go_wp2_with fail;refine (zF7 _ _ _ _ (Lib.hid rfl) hle hc1 _ hr1).mono ?_;rintro e w2 ⟨a, cap, rfl, hcc, hr, hb⟩;go_wp2
   go_ret
   rw [HS.out] at hr;exact ⟨a, cap, by rw [hlen.out]; rfl, hlen.out ▸ hcc, hr, (upB hw hb)⟩
  ·intro u x T R' w1 hperm HR1 hg1 hs1 hen;have hD2 := Lib.hid (show ((D ++ [((u, x), T)]) ++ R').Perm E by have := (hperm.append_left D).symm.trans hD.out; simpa using this);have own1 := hown.kept hg1 (.inr (fun e => zAz hown HR e.symm));have hw1 := hw.grown hg1 hw.size (fun k hk => by cases hk; exact Nat.le_refl _);have HL := Lib.hid (show w1.rangeLeft b w.heap.size < wr.rangeLeft b w.heap.size by rw [zAg HR1, zAg HR, hperm.length_eq]; simp);have hen2 : (Instr.entry (.pointer (some ⟨w.heap.size, 0, none⟩))).run Tryz.prog w1 = .ok (.tuple #[.agg #[.int .i64 u.x, .int .i64 u.y, .int .i64 x.x, .int .i64 x.y], .agg #[.int .i64 T.A.x, .int .i64 T.A.y, .int .i64 T.B.x, .int .i64 T.B.y, .int .i64 T.C.x, .int .i64 T.C.y]]) w1 := hen;have hle : (heads yes D).length ≤ 1000000 := by have := hD2.out.length_eq; have := zD5 yes D; simp at *; omega
   clear hown HR hg1 hs1 hen hperm hw;have hnx : Hid (∀ W : World, Below w1.heap.size w1 W → (W.rangeLeft b w.heap.size < wr.rangeLeft b w.heap.size)) := Lib.hid (fun W hW => by
    rw [zAg (HR1.ee hW), ← zAg HR1]; exact HL.out)
   by_cases hA : u = T.A
   ·have hd : peqI u.x u.y T.A.x T.A.y = true := zBk.2 hA;have HH := Lib.hid (show heads yes (D ++ [((u, x), T)]) = heads yes D ++ [T] by rw [zAy, zGx hA rfl]);have HB := Lib.hid hw1.size;have hb3 : Below w1.heap.size w1 ((w1.alloc (.cells #[.int .i64 u.x, .int .i64 u.y, .int .i64 x.x, .int .i64 x.y] 101)).alloc (.cells (cT T).toArray 43)) := by go_grown
    have own3 := (own1.alloc (.cells #[.int .i64 u.x, .int .i64 u.y, .int .i64 x.x, .int .i64 x.y] 101)).alloc (.cells (cT T).toArray 43);have HO3 := Lib.hid own3;clear hA;go_wp2_with (at_builtin; refine zB3 rfl _ _ rfl w.heap.size _ (heads yes D) rfl (own3.alloc _) (w1.heap.size + 1 + 1) T rfl (Box.new (by simp)) hle (by have := HB.out; simp; omega) ?_; intro w4 v4 hown4 hg4)
    have hR3 := (HR1.ee hb3).kept (World.grownBy_alloc _ (.cells (cT T).toArray 43) none) (by simp) (by simp);have hR4 := hR3.kept hg4 (zC7 (own3.alloc _) hR3.holds) (zAz (own3.alloc _) hR3);have hw4 := ((((upB hw1 hb3)).alloc (by have := HB.out; simp; omega) (.cells (cT T).toArray 43))).grown hg4 (by have := HB.out; simp; omega) (fun k hk => ((own3.alloc (.cells (cT T).toArray 43)).lt k hk).1)
    go_roundw
    case rel => exact ⟨D ++ [((u, x), T)], R', hD2, by rw [HH.out]; exact hown4, hR4, hw4⟩
    case measure => rw [zAg hR4, ← zAg HR1]; exact HL.out
   ·have hd : peqI u.x u.y T.A.x T.A.y = false := by rw [← Bool.not_eq_true, zBk]; exact hA
    have HH := Lib.hid (show heads yes (D ++ [((u, x), T)]) = heads yes D by rw [zAy, zFi (by simp [hA])]; simp);clear hA;go_wp2
    go_roundw
    case rel => exact ⟨D ++ [((u, x), T)], R', hD2, by rw [HH.out]; exact (own1.alloc _).alloc _, HR1.ext (by go_grown) rfl, by have := hw1.size; go_grown⟩
    case measure => exact hnx.out _ (by go_grown)
theorem rtris_any (mb b : Nat) (E : Es) (hE : E.length ≤ 1000000) (w : World) (Bm : Box w mb [.map (some b)] 54) (Hm : HoldsMap eW eT okW w b E) :
    Calls Tryz.prog 13 #[.pointer (some ⟨mb, 0, none⟩)] w fun e w' => ∃ a cap, e = .returned (.slice a (srt cmpT (heads (fun _ => true) E)).length cap) ∧ RowAt cT 6 w' a (srt cmpT (heads (fun _ => true) E)) ∧ Below w.heap.size w w' :=
 (zGj mb b E hE w Bm Hm).mono fun _ _ h => by
  obtain ⟨a, cap, h1, _, h2⟩ := h;exact ⟨a, cap, h1, h2⟩
theorem zDd {w w' : World} {B k : Nat} {T : TypeId} {v : Value} {n : Nat} {xs : List Value} (h : w.ownsRow B T k v n xs) (hb : Below w.heap.size w w') : w'.ownsRow B T k v n xs :=
 h.kept (zA7 hb none) (by cases v.ownBlock <;> simp)
theorem Box.grown2 {w w' : World} {x : Nat} {cs : List Value} {T : TypeId} {r : Option Nat} (h : Box w x cs T) (hg : w.grownBy w' r) (hr : ∀ k, r = some k → x < k) : Box w' x cs T := by
 have hl := h.lt;unfold Box at *;rw [hg.block x hl (fun e => by have := hr x e.symm; omega)]; exact h
theorem Box.grown1 {w w' : World} {x r : Nat} {cs : List Value} {T : TypeId} (h : Box w x cs T) (hg : w.grownBy w' (some r)) (hr : x < r := by omega) : Box w' x cs T := h.grown2 hg (fun k hk => by cases hk; exact hr)
theorem zJi (mb b : Nat) (E : Es) (p : Pt) (hE : E.length ≤ 1000000) (w : World) (Bm : Box w mb [.map (some b)] 54) (Hm : HoldsMap eW eT okW w b E) :
    Calls Tryz.prog 94 #[.pointer (some ⟨mb, 0, none⟩), .agg #[.int .i64 p.x, .int .i64 p.y]] w fun e w' => ∃ a cap, e = .returned (.slice a (srt cmpT (heads (fun T => hasP T p) E)).length cap) ∧ RowAt cT 6 w' a (srt cmpT (heads (fun T => hasP T p) E)) ∧ Below w.heap.size w w' := by
 obtain ⟨f, ef⟩ : ∃ f : Tri3 → Bool, f = fun T => hasP T p := ⟨_, rfl⟩;rw [← ef];have hf : ∀ T, hasP T p = f T := fun T => by rw [ef]
 clear ef;have cH : ∀ (T : Tri3) (W : World), Calls Tryz.prog 62 #[.agg #[.int .i64 T.A.x, .int .i64 T.A.y, .int .i64 T.B.x, .int .i64 T.B.y, .int .i64 T.C.x, .int .i64 T.C.y], .agg #[.int .i64 p.x, .int .i64 p.y]] W fun e w' => e = .returned (.bool (f T)) ∧ Below W.heap.size W w' := fun T W => by rw [← hf]; exact zD2 T p W
 clear hf;have Fm := Bm.f
 go_enter Tryz.func94, Tryz.ntmps94
 go_wp2_with (at_range; refine zB7 _ rfl _ rfl kvR rfl (Hm.alloc _) ?_)
 intro w0 HR0 hw0 hs0;have Bp0 : Box w0 w.heap.size [.int .i64 p.x, .int .i64 p.y] 30 := (Box.new rfl).ext hw0 (by simp);replace hw0 : Below w.heap.size w w0 := ((Below.refl w.heap.size w).alloc (Nat.le_refl _) _).trans (hw0.mono (by simp));clear Fm;go_wp2
 go_loopw [5] (fun v wr => ∃ D R : Es, Hid ((D ++ R).Perm E) ∧ wr.ownsRow (w.heap.size + 1) 43 6 v (heads f D).length ((heads f D).flatMap cT) ∧ Ranging eW eT okW wr b (w.heap.size + 1) E R ∧ Box wr w.heap.size [.int .i64 p.x, .int .i64 p.y] 30 ∧ Below w.heap.size w wr) (fun _ wr => wr.rangeLeft b (w.heap.size + 1))
 case atStart => exact ⟨[], E, Lib.hid (by simp), World.ownsRow_nil _ _ _ _, by simpa using HR0, Bp0, hw0⟩
 case round =>
  clear HR0 hw0 Bp0;obtain ⟨D, R, hD, hown, HR, Bp, hw⟩ := hrel;go_wp2_with (at_next; refine zBe _ rfl _ rfl rfl HR ?_ ?_)
  ·intro hR;subst hR;have hp0 : (heads f D).Perm (heads f E) := zCw (by simpa using hD.out);have hle : (heads f D).length ≤ 1000000 := by have := hp0.length_eq; have := zD5 f E; omega
   have HS := Lib.hid (wholeT.srt_of_perm hp0);obtain ⟨a1, c1, rfl, hc1, hr1⟩ := zAr zFs hown;have hlen := Lib.hid (show (heads f D).length = (srt cmpT (heads f E)).length by rw [← HS.out]; exact (zAo _).length_eq.symm);go_wp2_with fail;refine (zC6 _ _ _ _ (Lib.hid rfl) hle hc1 _ hr1).mono ?_;rintro e w2 ⟨a, cap, rfl, hr, hb⟩;go_wp2
   go_ret
   rw [HS.out] at hr;exact ⟨a, cap, by rw [hlen.out]; rfl, hr, (upB hw hb)⟩
  ·intro u x T R' w1 hperm HR1 hg1 hs1 hen;have hD2 := Lib.hid (show ((D ++ [((u, x), T)]) ++ R').Perm E by have := (hperm.append_left D).symm.trans hD.out; simpa using this);have own1 := hown.kept hg1 (.inr (fun e => zAz hown HR e.symm));have Bp1 := Bp.grown1 hg1;have hw1 := hw.grown hg1 hw.size (fun k hk => by cases hk; omega);have HL := Lib.hid (show w1.rangeLeft b (w.heap.size + 1) < wr.rangeLeft b (w.heap.size + 1) by rw [zAg HR1, zAg HR, hperm.length_eq]; simp);have hen2 : (Instr.entry (.pointer (some ⟨w.heap.size + 1, 0, none⟩))).run Tryz.prog w1 = .ok (.tuple #[.agg #[.int .i64 u.x, .int .i64 u.y, .int .i64 x.x, .int .i64 x.y], .agg #[.int .i64 T.A.x, .int .i64 T.A.y, .int .i64 T.B.x, .int .i64 T.B.y, .int .i64 T.C.x, .int .i64 T.C.y]]) w1 := hen;have hle : (heads f D).length ≤ 1000000 := by have := hD2.out.length_eq; have := zD5 f D; simp at *; omega
   have HB := Lib.hid hw1.size;clear hown HR hg1 hs1 hen hperm hw Bp;by_cases hA : u = T.A
   ·have hd : peqI u.x u.y T.A.x T.A.y = true := zBk.2 hA;have HHt := Lib.hid (fun (hf : f T = true) => show heads f (D ++ [((u, x), T)]) = heads f D ++ [T] by rw [zAy, zGx hA hf]);have HHf := Lib.hid (fun (hf : f T = false) => show heads f (D ++ [((u, x), T)]) = heads f D by rw [zAy, zFi (by simp [hf])]; simp);clear hA;have Fp := Bp1.f;have e1 : (w.heap.size = w1.heap.size + 1) = False := by have := Bp1.lt; simp; omega
    go_wp2_with fail;refine zA1 fun W2 hW => ?_;have Bt : Box W2 (w1.heap.size + 1) [.int .i64 T.A.x, .int .i64 T.A.y, .int .i64 T.B.x, .int .i64 T.B.y, .int .i64 T.C.x, .int .i64 T.C.y] 43 := by rw [hW]; exact Box.new (by simp)
    have Bp2 : Box W2 w.heap.size [.int .i64 p.x, .int .i64 p.y] 30 := by rw [hW]; exact (Bp1.old _).old _
    have own2 : W2.ownsRow (w.heap.size + 1) 43 6 u5 (heads f D).length ((heads f D).flatMap cT) := by rw [hW]; exact (own1.alloc _).alloc _
    have hw2 : Below w1.heap.size w1 W2 := by rw [hW]; go_grown
    have HR2 := HR1.ee hw2;clear hW Fp e1 Bp1 own1;refine (cH T _).mono ?_;rintro e w3 ⟨rfl, hb⟩;replace Bt := Bt.ee hb;replace Bp2 := Bp2.ee hb;replace own2 := zDd own2 hb;replace HR2 := HR2.ee hb;have hw3 := hw1.trans (((upB hw2 hb)).mono hw1.size);have HL3 := Lib.hid (show w3.rangeLeft b (w.heap.size + 1) < wr.rangeLeft b (w.heap.size + 1) by rw [zAg HR2, ← zAg HR1]; exact HL.out);have HB3 := Lib.hid hw3.size;clear hb hw2;cases hf : f T with
    | true =>
     have HH := Lib.hid (HHt.out hf);clear HHt HHf hf;have Ft := Bt.f;go_wp2_with (at_builtin; refine zB3 rfl _ _ rfl (w.heap.size + 1) _ (heads f D) rfl (own2.alloc _) w3.heap.size T rfl (Box.new (by simp)) hle (by have := HB3.out; simp; omega) ?_; intro w4 v4 hown4 hg4)
     have hR3 := HR2.kept (World.grownBy_alloc _ (.cells (cT T).toArray 43) none) (by simp) (by simp);have hR4 := hR3.kept hg4 (zC7 (own2.alloc _) hR3.holds) (zAz (own2.alloc _) hR3);have hw4 := ((hw3.alloc (by have := HB3.out; omega) (.cells (cT T).toArray 43))).grown hg4 (by have := HB3.out; simp; omega) (fun k hk => by have := ((own2.alloc (.cells (cT T).toArray 43)).lt k hk).1; omega);have Bp4 := (Bp2.old (.cells (cT T).toArray 43)).grown2 hg4 (fun k hk => by have := ((own2.alloc (.cells (cT T).toArray 43)).lt k hk).1; omega)
     go_roundw
     case rel => exact ⟨D ++ [((u, x), T)], R', hD2, by rw [HH.out]; exact hown4, hR4, Bp4, hw4⟩
     case measure => rw [zAg hR4, ← zAg HR2]; exact HL3.out
    | false =>
     have HH := Lib.hid (HHf.out hf);clear HHt HHf hf;go_wp2
     go_roundw
     case rel => exact ⟨D ++ [((u, x), T)], R', hD2, by rw [HH.out]; exact own2, HR2, Bp2, hw3⟩
     case measure => exact HL3.out
   ·have hd : peqI u.x u.y T.A.x T.A.y = false := by rw [← Bool.not_eq_true, zBk]; exact hA
    have HH := Lib.hid (show heads f (D ++ [((u, x), T)]) = heads f D by rw [zAy, zFi (by simp [hA])]; simp);clear hA;go_wp2
    go_roundw
    case rel => exact ⟨D ++ [((u, x), T)], R', hD2, by rw [HH.out]; exact (own1.alloc _).alloc _, HR1.ext (by go_grown) rfl, (Bp1.old _).old _, by have := hw1.size; go_grown⟩
    case measure => rw [zAg ((HR1.ext (w' := (w1.alloc _).alloc _) (by go_grown) rfl)), ← zAg HR1]; exact HL.out
end Go.Proofs.YtjkfakaehjmnbaaGreat
namespace Go.Proofs.YtjkfakaehjmnbaaGreat
open Go.RowKit Go.Sort
attribute [local go_sem] rOper rAt rUpon cell_set sg_i64 sg_u64 alloc_cell alloc_frozen
attribute [local go_sem 10000] pt_eql pt_neq wal_eql wal_neq
attribute [local irreducible] rWalk
theorem mw_a (a b : Pt) (k : Int) (ha : vld a = false) (w : World) :
    Calls Tryz.prog 49 #[.agg #[.int .i64 a.x, .int .i64 a.y], .agg #[.int .i64 b.x, .int .i64 b.y], .int .i64 k] w fun e w' => e = .returned (.tuple #[.agg #[.int .i64 0, .int .i64 0, .int .i64 0, .int .i64 0, .int .i64 0], .bool false]) ∧ Below w.heap.size w w' := by
 have c1 := zA6 a;rw [ha] at c1;clear ha
 go_enter Tryz.func49, Tryz.ntmps49
 go_wp2_with fail;refine zA1 fun W1 hW => ?_;obtain ⟨Ba, Bb, Br, hw⟩ := N3 hW;clear hW;refine (c1 _).mono ?_;rintro e w2 ⟨rfl, hb⟩;obtain ⟨Ba, Bb, Br, hw, -⟩ := X3 Ba Bb Br hw hb;clear hb;have Fa := Ba.f;have Fb := Bb.f;have Fr := Br.f;go_wp2_with fail;refine bodyPost_ret (v := .tuple #[.agg #[.int .i64 0, .int .i64 0, .int .i64 0, .int .i64 0, .int .i64 0], .bool false]) (by simp [results, Tryz.results49, go_sem, Fr]) rfl ⟨rfl, by have hl := hw.size; go_grown⟩
theorem mw_b (a b : Pt) (k : Int) (ha : vld a = true) (hb : vld b = false) (w : World) :
    Calls Tryz.prog 49 #[.agg #[.int .i64 a.x, .int .i64 a.y], .agg #[.int .i64 b.x, .int .i64 b.y], .int .i64 k] w fun e w' => e = .returned (.tuple #[.agg #[.int .i64 0, .int .i64 0, .int .i64 0, .int .i64 0, .int .i64 0], .bool false]) ∧ Below w.heap.size w w' := by
 have c1 := zA6 a;rw [ha] at c1;have c2 := zA6 b;rw [hb] at c2;clear ha hb
 go_enter Tryz.func49, Tryz.ntmps49
 go_wp2_with fail;refine zA1 fun W1 hW => ?_;obtain ⟨Ba, Bb, Br, hw⟩ := N3 hW;clear hW;refine (c1 _).mono ?_;rintro e w2 ⟨rfl, hb⟩;obtain ⟨Ba, Bb, Br, hw, -⟩ := X3 Ba Bb Br hw hb;clear hb;have Fa := Ba.f;have Fb := Bb.f;have Fr := Br.f;go_wp2_with fail;refine (c2 _).mono ?_;rintro e w3 ⟨rfl, hb⟩;clear Fa Fb Fr;obtain ⟨Ba, Bb, Br, hw, -⟩ := X3 Ba Bb Br hw hb;clear hb;have Fa := Ba.f;have Fb := Bb.f;have Fr := Br.f;go_wp2_with fail;refine bodyPost_ret (v := .tuple #[.agg #[.int .i64 0, .int .i64 0, .int .i64 0, .int .i64 0, .int .i64 0], .bool false]) (by simp [results, Tryz.results49, go_sem, Fr]) rfl ⟨rfl, by have hl := hw.size; go_grown⟩
theorem mw_e (a b : Pt) (k : Int) (ha : vld a = true) (hb : vld b = true) (e : peqI a.x a.y b.x b.y = true) (w : World) :
    Calls Tryz.prog 49 #[.agg #[.int .i64 a.x, .int .i64 a.y], .agg #[.int .i64 b.x, .int .i64 b.y], .int .i64 k] w fun e w' => e = .returned (.tuple #[.agg #[.int .i64 0, .int .i64 0, .int .i64 0, .int .i64 0, .int .i64 0], .bool false]) ∧ Below w.heap.size w w' := by
 have c1 := zA6 a;rw [ha] at c1;have c2 := zA6 b;rw [hb] at c2;clear ha hb
 go_enter Tryz.func49, Tryz.ntmps49
 go_wp2_with fail;refine zA1 fun W1 hW => ?_;obtain ⟨Ba, Bb, Br, hw⟩ := N3 hW;clear hW;refine (c1 _).mono ?_;rintro e w2 ⟨rfl, hb⟩;obtain ⟨Ba, Bb, Br, hw, -⟩ := X3 Ba Bb Br hw hb;clear hb;have Fa := Ba.f;have Fb := Bb.f;have Fr := Br.f;go_wp2_with fail;refine (c2 _).mono ?_;rintro e w3 ⟨rfl, hb⟩;clear Fa Fb Fr;obtain ⟨Ba, Bb, Br, hw, -⟩ := X3 Ba Bb Br hw hb;clear hb;have Fa := Ba.f;have Fb := Bb.f;have Fr := Br.f;go_wp2_with fail;refine bodyPost_ret (v := .tuple #[.agg #[.int .i64 0, .int .i64 0, .int .i64 0, .int .i64 0, .int .i64 0], .bool false]) (by simp [results, Tryz.results49, go_sem, Fr]) rfl ⟨rfl, by have hl := hw.size; go_grown⟩
theorem mw_k (a b : Pt) (k : Int) (ha : vld a = true) (hb : vld b = true) (e : peqI a.x a.y b.x b.y = false) (e1 : (k != 1) = true) (e2 : (k != 2) = true) (w : World) :
    Calls Tryz.prog 49 #[.agg #[.int .i64 a.x, .int .i64 a.y], .agg #[.int .i64 b.x, .int .i64 b.y], .int .i64 k] w fun e w' => e = .returned (.tuple #[.agg #[.int .i64 0, .int .i64 0, .int .i64 0, .int .i64 0, .int .i64 0], .bool false]) ∧ Below w.heap.size w w' := by
 have c1 := zA6 a;rw [ha] at c1;have c2 := zA6 b;rw [hb] at c2;clear ha hb
 go_enter Tryz.func49, Tryz.ntmps49
 go_wp2_with fail;refine zA1 fun W1 hW => ?_;obtain ⟨Ba, Bb, Br, hw⟩ := N3 hW;clear hW;refine (c1 _).mono ?_;rintro e w2 ⟨rfl, hb⟩;obtain ⟨Ba, Bb, Br, hw, -⟩ := X3 Ba Bb Br hw hb;clear hb;have Fa := Ba.f;have Fb := Bb.f;have Fr := Br.f;go_wp2_with fail;refine (c2 _).mono ?_;rintro e w3 ⟨rfl, hb⟩;clear Fa Fb Fr;obtain ⟨Ba, Bb, Br, hw, -⟩ := X3 Ba Bb Br hw hb;clear hb;have Fa := Ba.f;have Fb := Bb.f;have Fr := Br.f;go_wp2_with fail;refine bodyPost_ret (v := .tuple #[.agg #[.int .i64 0, .int .i64 0, .int .i64 0, .int .i64 0, .int .i64 0], .bool false]) (by simp [results, Tryz.results49, go_sem, Fr]) rfl ⟨rfl, by have hl := hw.size; go_grown⟩
theorem mw_o1 (a b : Pt) (k : Int) (ha : vld a = true) (hb : vld b = true) (e : peqI a.x a.y b.x b.y = false) (e1 : (k != 1) = false) (w : World) :
    Calls Tryz.prog 49 #[.agg #[.int .i64 a.x, .int .i64 a.y], .agg #[.int .i64 b.x, .int .i64 b.y], .int .i64 k] w fun e w' => e = .returned (.tuple #[.agg #[.int .i64 (rl a b).x, .int .i64 (rl a b).y, .int .i64 (rg a b).x, .int .i64 (rg a b).y, .int .i64 k], .bool true]) ∧ Below w.heap.size w w' := by
 have c1 := zA6 a;rw [ha] at c1;have c2 := zA6 b;rw [hb] at c2;have c3 := zKx a b;have c4 := zKz a b;clear ha hb;generalize rl a b = p at *
 generalize rg a b = q at *
 go_enter Tryz.func49, Tryz.ntmps49
 go_wp2_with fail;refine zA1 fun W1 hW => ?_;obtain ⟨Ba, Bb, Br, hw⟩ := N3 hW;clear hW;refine (c1 _).mono ?_;rintro e w2 ⟨rfl, hb⟩;obtain ⟨Ba, Bb, Br, hw, -⟩ := X3 Ba Bb Br hw hb;clear hb;have Fa := Ba.f;have Fb := Bb.f;have Fr := Br.f;go_wp2_with fail;refine (c2 _).mono ?_;rintro e w3 ⟨rfl, hb⟩;clear Fa Fb Fr;obtain ⟨Ba, Bb, Br, hw, -⟩ := X3 Ba Bb Br hw hb;clear hb;have Fa := Ba.f;have Fb := Bb.f;have Fr := Br.f;go_wp2_with fail;have g_abr := J3 Ba.cells Bb.cells Br.cells;refine wrt 8 (by kernel_rfl) (by kernel_rfl) ?_;simp only [tK1, tK0, dP1, dP0];repeat (first | (refine zA0 (Eq.refl false) ?_; simp only [Act.put, sT2, sT1, sT0]) | (refine rWalk_step (fun K hK => ?_); go_simp; first | (refine hK _ ?_; clear hK K) | (apply Exists.intro; refine ⟨fun _ => ?_, hK _ ?_⟩; (first | with_reducible exact toExt c3 _ | with_reducible exact toExt c4 _); clear hK K)))
 refine rWalk_nil ?_;intro w4 hb;clear g_abr;clear Fa Fb Fr;obtain ⟨Ba, Bb, Br, hw, -⟩ := X3 Ba Bb Br hw hb;have Fa := Ba.f;have Fb := Bb.f;have Fr := Br.f;go_wp2_with fail;refine bodyPost_ret (v := .tuple #[.agg #[.int .i64 p.x, .int .i64 p.y, .int .i64 q.x, .int .i64 q.y, .int .i64 k], .bool true]) (by simp [results, Tryz.results49, go_sem, Fr]) rfl ⟨rfl, by have hl := hw.size; go_grown⟩
theorem mw_o2 (a b : Pt) (k : Int) (ha : vld a = true) (hb : vld b = true) (e : peqI a.x a.y b.x b.y = false) (e1 : (k != 1) = true) (e2 : (k != 2) = false) (w : World) :
    Calls Tryz.prog 49 #[.agg #[.int .i64 a.x, .int .i64 a.y], .agg #[.int .i64 b.x, .int .i64 b.y], .int .i64 k] w fun e w' => e = .returned (.tuple #[.agg #[.int .i64 (rl a b).x, .int .i64 (rl a b).y, .int .i64 (rg a b).x, .int .i64 (rg a b).y, .int .i64 k], .bool true]) ∧ Below w.heap.size w w' := by
 have c1 := zA6 a;rw [ha] at c1;have c2 := zA6 b;rw [hb] at c2;have c3 := zKx a b;have c4 := zKz a b;clear ha hb;generalize rl a b = p at *
 generalize rg a b = q at *
 go_enter Tryz.func49, Tryz.ntmps49
 go_wp2_with fail;refine zA1 fun W1 hW => ?_;obtain ⟨Ba, Bb, Br, hw⟩ := N3 hW;clear hW;refine (c1 _).mono ?_;rintro e w2 ⟨rfl, hb⟩;obtain ⟨Ba, Bb, Br, hw, -⟩ := X3 Ba Bb Br hw hb;clear hb;have Fa := Ba.f;have Fb := Bb.f;have Fr := Br.f;go_wp2_with fail;refine (c2 _).mono ?_;rintro e w3 ⟨rfl, hb⟩;clear Fa Fb Fr;obtain ⟨Ba, Bb, Br, hw, -⟩ := X3 Ba Bb Br hw hb;clear hb;have Fa := Ba.f;have Fb := Bb.f;have Fr := Br.f;go_wp2_with fail;have g_abr := J3 Ba.cells Bb.cells Br.cells;refine wrt 8 (by kernel_rfl) (by kernel_rfl) ?_;simp only [tK1, tK0, dP1, dP0];repeat (first | (refine zA0 (Eq.refl false) ?_; simp only [Act.put, sT2, sT1, sT0]) | (refine rWalk_step (fun K hK => ?_); go_simp; first | (refine hK _ ?_; clear hK K) | (apply Exists.intro; refine ⟨fun _ => ?_, hK _ ?_⟩; (first | with_reducible exact toExt c3 _ | with_reducible exact toExt c4 _); clear hK K)))
 refine rWalk_nil ?_;intro w4 hb;clear g_abr;clear Fa Fb Fr;obtain ⟨Ba, Bb, Br, hw, -⟩ := X3 Ba Bb Br hw hb;have Fa := Ba.f;have Fb := Bb.f;have Fr := Br.f;go_wp2_with fail;refine bodyPost_ret (v := .tuple #[.agg #[.int .i64 p.x, .int .i64 p.y, .int .i64 q.x, .int .i64 q.y, .int .i64 k], .bool true]) (by simp [results, Tryz.results49, go_sem, Fr]) rfl ⟨rfl, by have hl := hw.size; go_grown⟩
theorem rl_lo {a b : Pt} (h : a ≠ b) : rl a b = lo2 a b ∧ rg a b = hi2 a b := by
 have h1 := zFo a b;have h2 : ¬ cmpP a b = 0 := fun e => h (zCj.1 e);unfold rl rg lo2 hi2;constructor <;> (split <;> split <;> first | rfl | (exfalso; omega))
theorem zI7 (a b : Pt) (k : Int) (w : World) :
    Calls Tryz.prog 49 #[.agg #[.int .i64 a.x, .int .i64 a.y], .agg #[.int .i64 b.x, .int .i64 b.y], .int .i64 k] w fun e w' => e = .returned (.tuple #[.agg #[.int .i64 (mkW a b k).A.x, .int .i64 (mkW a b k).A.y, .int .i64 (mkW a b k).B.x, .int .i64 (mkW a b k).B.y, .int .i64 (mkW a b k).K], .bool (mkOk a b k)]) ∧ Below w.heap.size w w' := by
 have hz : ∀ e, mkOk a b k = e → e = false → mkW a b k = ⟨⟨0, 0⟩, ⟨0, 0⟩, 0⟩ := fun e h1 h2 => by unfold mkW; rw [h1, h2]; rfl
 cases ha : vld a with
 | false =>
  have h : mkOk a b k = false := by unfold mkOk; rw [ha]; simp
  rw [hz _ h rfl, h]; exact mw_a a b k ha w
 | true =>
  cases hb : vld b with
  | false =>
   have h : mkOk a b k = false := by unfold mkOk; rw [hb]; simp
   rw [hz _ h rfl, h]; exact mw_b a b k ha hb w
  | true =>
   cases e : peqI a.x a.y b.x b.y with
   | true =>
    have h : mkOk a b k = false := by rw [zBy] at e; unfold mkOk; rw [e]; simp
    rw [hz _ h rfl, h]; exact mw_e a b k ha hb e w
   | false =>
    have hab : a ≠ b := by rw [zBy] at e; simpa using e
    have h0 : mkOk a b k = mkK k := by rw [zBy] at e; unfold mkOk; rw [e, ha, hb]; simp
    have hy : mkOk a b k = true → mkW a b k = ⟨rl a b, rg a b, k⟩ := fun h => by unfold mkW; rw [h, (rl_lo hab).1, (rl_lo hab).2]; rfl
    cases e1 : (k != 1) with
    | false =>
     have h : mkOk a b k = true := by rw [h0]; simp at e1; simp [mkK, e1]
     rw [hy h, h]; exact mw_o1 a b k ha hb e e1 w
    | true =>
     cases e2 : (k != 2) with
     | false =>
      have h : mkOk a b k = true := by rw [h0]; simp at e2; simp [mkK, e2]
      rw [hy h, h]; exact mw_o2 a b k ha hb e e1 e2 w
     | true =>
      have h : mkOk a b k = false := by rw [h0]; simp at e1 e2; simp [mkK, e1, e2]
      rw [hz _ h rfl, h]; exact mw_k a b k ha hb e e1 e2 w
end Go.Proofs.YtjkfakaehjmnbaaGreat
namespace Go.Proofs.YtjkfakaehjmnbaaGreat
open Go.RowKit Go.Sort Go.Lib
attribute [local go_sem] rOper rAt rUpon cell_set sg_i64 sg_u64 alloc_cell alloc_frozen
attribute [local go_sem 10000] pt_eql pt_neq wal_eql wal_neq
attribute [local irreducible] rWalk
def Fresh (v v' : Value) (n : Nat) : Prop := ∀ g, v'.ownBlock = some g → v.ownBlock = some g ∨ n ≤ g
def z5 : List Value := [.int .i64 0, .int .i64 0, .int .i64 0, .int .i64 0, .int .i64 0]
end Go.Proofs.YtjkfakaehjmnbaaGreat
namespace Go.Proofs.YtjkfakaehjmnbaaGreat
open Go.RowKit Go.Sort
attribute [local go_sem] rOper rAt rUpon cell_set sg_i64 sg_u64 alloc_cell alloc_frozen
attribute [local go_sem 10000] pt_eql pt_neq wal_eql wal_neq
attribute [local irreducible] rWalk
structure Frm (w w' : World) (p : Nat → Prop) : Prop where
 os : w'.os = w.os
 tape : w'.tape = w.tape
 output : w'.output = w.output
 size : w.heap.size ≤ w'.heap.size
 block : ∀ k, k < w.heap.size → ¬ p k → w'.heap[k]? = w.heap[k]?
theorem Frm.of_below {w w' : World} {p : Nat → Prop} (h : Below w.heap.size w w') : Frm w w' p := ⟨h.1, h.2, h.3, h.4, fun k hk _ => h.block k hk⟩
theorem Frm.of_grown {w w' : World} {p : Nat → Prop} {r : Option Nat} (h : w.grownBy w' r) (hr : ∀ g, r = some g → p g) : Frm w w' p := ⟨h.1, h.2, h.3, h.4, fun k hk hn => h.block k hk (fun e => hn (hr k e.symm))⟩
theorem Frm.trans {w w' w2 : World} {p : Nat → Prop} (h : Frm w w' p) (h2 : Frm w' w2 p) : Frm w w2 p := ⟨h2.os.trans h.os, h2.tape.trans h.tape, h2.output.trans h.output, Nat.le_trans h.size h2.size, fun k hk hn => (h2.block k (Nat.lt_of_lt_of_le hk h.size) hn).trans (h.block k hk hn)⟩
theorem Frm.trans2 {w w' w2 : World} {p q : Nat → Prop} (h : Frm w w' p) (h2 : Frm w' w2 q) (hq : ∀ k, q k → k < w.heap.size → p k) : Frm w w2 p := ⟨h2.os.trans h.os, h2.tape.trans h.tape, h2.output.trans h.output, Nat.le_trans h.size h2.size, fun k hk hn => (h2.block k (Nat.lt_of_lt_of_le hk h.size) (fun hh => hn (hq k hh hk))).trans (h.block k hk hn)⟩
theorem Frm.setCell {w w' : World} {p : Nat → Prop} (h : Frm w w' p) (q : Addr) (hq : p q.block) (v : Value) : Frm w (w'.setCell q v) p :=
 ⟨h.os, h.tape, h.output, by simpa using h.size, fun k hk hn => by
  have hne : ¬ q.block = k := fun e => hn (e ▸ hq);simp only [World.setCell, Array.getElem?_modify, if_neg hne];exact h.block k hk hn⟩
theorem Frm.below {w w' : World} {p : Nat → Prop} {n : Nat} (h : Frm w w' p) (hp : ∀ k, p k → n ≤ k) (hn : n ≤ w.heap.size) : Below n w w' := ⟨h.os, h.tape, h.output, h.size, fun k hk => h.block k (by omega) (fun e => by have := hp k e; omega)⟩
theorem Frm.box {w w' : World} {p : Nat → Prop} {b : Nat} {cs : List Value} {T : TypeId} (h : Frm w w' p) (hb : Box w b cs T) (hn : ¬ p b) : Box w' b cs T := by
 have hl := hb.lt;unfold Box at *;rw [h.block b hl hn]; exact hb
theorem Frm.row {w w' : World} {p : Nat → Prop} {B : Nat} {v : Value} {L : List Wl} (h : Frm w w' p) (hr : WRow w B v L) (hn : ∀ g, v.ownBlock = some g → ¬ p g) : WRow w' B v L := by
 refine ⟨hr.1, ?_⟩;rcases hr.2 with h' | ⟨g, cap, cur, h0, h1, h2, h3⟩
 ·exact .inl h'
 ·refine .inr ⟨g, cap, cur, h0, h1, ?_, h3⟩;have hl : g < w.heap.size := (Array.getElem?_eq_some_iff.1 h2).1;rw [h.block g hl (hn g (by rw [h0]; rfl))]; exact h2
structure SetAt (w : World) (sb : Nat) (v : Value) (L : List Wl) : Prop where
 box : Box w sb [v] 121
 row : WRow w 0 v L
 ne : v.ownBlock ≠ some sb
 le : L.length ≤ 1000000
 ris : Ris L
 good : ∀ x ∈ L, GoodW x
theorem SetAt.rd {w : World} {sb : Nat} {v : Value} {L : List Wl} (S : SetAt w sb v L) : ∃ a c, v = .slice a L.length c ∧ SetRd w sb a c L.length L := by
 obtain ⟨a, c, h1, h2, h3⟩ := S.row.row;refine ⟨a, c, h1, h1 ▸ S.box, h2, rfl, S.le, ?_, h3, fun e => ?_, S.ris, S.good⟩
 ·rcases S.row.box with ⟨e, e2⟩ | ⟨_, _, _, e, _, _, h, _⟩
  ·rw [e2]; exact Nat.zero_le _
  ·rw [h1] at e; simp only [Value.slice.injEq] at e; omega
 ·rcases S.row.box with ⟨_, e2⟩ | ⟨_, _, _, e2, _⟩
  ·exact e2
  ·rw [h1, e] at e2; simp at e2
theorem WRow.drew {w : World} {B : Nat} {v : Value} {L : List Wl} (h : WRow w B v L) : WRow w.drew B v L := h
theorem WRow.form {w : World} {B : Nat} {v : Value} {L : List Wl} (h : WRow w B v L) : ∃ a n c, v = .slice a n c := by
 obtain ⟨a, c, h1, _⟩ := h.row;exact ⟨a, _, c, h1⟩
theorem SetAt.keep {w w' : World} {sb : Nat} {v : Value} {L : List Wl} {p : Nat → Prop} (S : SetAt w sb v L) (h : Frm w w' p) (h1 : ¬ p sb) (h2 : ∀ g, v.ownBlock = some g → ¬ p g) : SetAt w' sb v L :=
 ⟨h.box S.box h1, h.row S.row h2, S.ne, S.le, S.ris, S.good⟩
theorem SetAt.ext {w w' : World} {sb : Nat} {v : Value} {L : List Wl} {n : Nat} (S : SetAt w sb v L) (hb : Below n w w') (hn : n = w.heap.size) : SetAt w' sb v L :=
 ⟨S.box.ext hb hn, S.row.ext hb hn, S.ne, S.le, S.ris, S.good⟩
theorem SetAt.ee {w w' : World} {sb : Nat} {v : Value} {L : List Wl} (S : SetAt w sb v L) (hb : Below w.heap.size w w') : SetAt w' sb v L := S.ext hb rfl
theorem Frm.refl (w : World) (p : Nat → Prop) : Frm w w p := ⟨rfl, rfl, rfl, Nat.le_refl _, fun _ _ _ => rfl⟩
end Go.Proofs.YtjkfakaehjmnbaaGreat
namespace Go.Proofs.YtjkfakaehjmnbaaGreat.FT
open Go.RowKit Go.Sort
section
variable {P : Program} {ops : Array Oper} {md : Region.Mode} {Q : Exit → Act → World → Prop} {n : Nat}
inductive Plan where
 | run (i : Nat) (rest : Plan)
 | alt (h : Nat) (after other : Plan)
 | stop
 | tail
def flow (P : Program) (ops : Array Oper) (n : Nat) (Q : Exit → Act → World → Prop) : Plan → (World → Prop) → Act → World → Prop
 | .run i rest, C, a, w => ∃ o, ops[i]? = some o ∧ if Region.wanted o (yielded ops a.tmps) then rOper P o a C (fun a' => flow P ops n Q rest C a' w) else flow P ops n Q rest C (a.put o.dst undef) w
 | .alt h after other, C, a, w => (∃ o, ops[h]? = some o ∧ ∀ w', Ext w w' → if Region.wanted o (yielded ops a.tmps) then
       o.wp P a w' (fun a' w2 => ∃ C' : World → Prop, (∀ x, C' x → C x) ∧ (∀ x y, Ext x y → C' x → C' y) ∧ C' w2 ∧ flow P ops n Q after C' a' w2) Q
     else ∃ C' : World → Prop, (∀ x, C' x → C x) ∧ (∀ x y, Ext x y → C' x → C' y) ∧ C' w' ∧ flow P ops n Q after C' (a.put o.dst undef) w') ∧ flow P ops n Q other C a w
 | .stop, _, _, _ => True
 | .tail, _, a, w => ∀ w', Ext w w' → wpList P ops Q (ops.toList.drop n) a w'
theorem flow_run {i : Nat} {rest : Plan} {C : World → Prop} {a : Act} {w : World} {o : Oper} (ho : ops[i]? = some o)
    (h : ∀ K : Act → Prop, (∀ a, flow P ops n Q rest C a w → K a) → if Region.wanted o (yielded ops a.tmps) then rOper P o a C K else K (a.put o.dst undef)) : flow P ops n Q (.run i rest) C a w :=
 ⟨o, ho, h _ (fun _ h => h)⟩
def Plan.runs : Plan → List Nat
 | .run i r => i :: r.runs
 | _ => []
def Plan.drop (i : Nat) : Plan → Plan
 | .run j r => if j = i then r else .run j (r.drop i)
 | p => p
def Plan.goto (h : Nat) : Plan → Plan
 | .run j r => .run j (r.goto h)
 | .alt k a o => if k = h then a else o.goto h
 | p => p
def planB (md : Region.Mode) (n : Nat) (ops : Array Oper) : List Nat → Plan → Array Bool → Bool
 | seen, .run i r, l => decide (i < n) && seen.isEmpty && (Region.ready md ops l).contains i && Region.free md ops l i && planB md n ops [] r (l.setIfInBounds i true)
 | seen, .alt h a o, l => decide (h < n) && (Region.ready md ops l).contains h && planB md n ops [] a (l.setIfInBounds h true) && planB md n ops (h :: seen) o l
 | seen, .stop, l => !seen.isEmpty && (Region.ready md ops l).all seen.contains
 | seen, .tail, l => seen.isEmpty && Region.seqB md ops (ops.size - n) n l
theorem zIq {l : Array Bool} {i j : Nat} (h : Region.free md ops l j = true) : Region.free md ops (l.setIfInBounds i true) j = true := by
 unfold Region.free at *;cases ho : ops[j]? with
 | none => rw [ho] at h; cases h
 | some oj =>
  rw [ho] at h;simp only [List.all_eq_true, List.mem_range, Bool.or_eq_true, beq_iff_eq] at h ⊢;intro k hk;rcases h k hk with (h1 | h1) | h1
  ·exact .inl (.inl h1)
  ·by_cases hik : i = k
   ·subst hik;refine .inl (.inr ?_);rcases Nat.lt_or_ge i l.size with h' | h'
    ·simp [h']
    ·simp [h']
   ·exact .inl (.inr (by rw [getD_set_ne true hik]; exact h1))
  ·exact .inr h1
theorem zK7 {l : Array Bool} {i j : Nat} {oi oj : Oper} (hj : ops[j]? = some oj) (hf : Region.free md ops l j = true) (hji : j ≠ i) (hun : l.getD j true = false) (hi : ops[i]? = some oi) (hr : i ∈ Region.ready md ops l) : oj.apart ops oi = true := by
 obtain ⟨h0, o, ho, hall⟩ := mem_ready.1 hr;have : o = oi := Option.some.inj (ho.symm.trans hi);subst this;refine Region.free_spec hj hf i o hi (Ne.symm hji) h0 fun e he hb heq => ?_;have h1 := hall e he hb;rw [heq, getD_both hun] at h1;cases h1
theorem wpOp_putR {C : World → Prop} {j : Nat} {oi oj : Oper} {v : Value} (hj : ops[j]? = some oj) (hap : oi.apart ops oj = true) (hsi : ∀ cs b, oi.op ≠ .select cs b) (hsj : ∀ cs b, oj.op ≠ .select cs b)
    (hQ : ∀ c x v a w, Q (.panic c) (Act.put a x v) w → Q (.panic c) a w) {K : Act → World → Prop} {a : Act} {w : World} (hy : rYields P ops C oi v a) (h : wpOp P ops Q j K (a.put oi.dst v) w) :
    wpOp P ops Q j (fun a' w' => rYields P ops C oi v a' ∧ K (a'.put oi.dst v) w') a w := by
 obtain ⟨g1, g2, g3⟩ := Oper.apart_spec hap;have e1 := execOp_put (ops := ops) oj hsj a oi.dst v g1;have e2 := wanted_put oj a oi.dst v g1;have kp : ∀ b u, rYields P ops C oi v b → rYields P ops C oi v (b.put oj.dst u) := fun b u hb => hb.same (execOp_put (ops := ops) oi hsi b oj.dst u g3) (wanted_put oi b oj.dst u g3);have kd : ∀ d, rYields P ops C oi v { a with defers := d :: a.defers } := fun d => hy.same rfl rfl;have cm : ∀ (b : Act) u, (b.put oi.dst v).put oj.dst u = (b.put oj.dst u).put oi.dst v := fun b u => Act.put_comm b v u g2;unfold wpOp at h ⊢;simp only [hj, e2] at h ⊢;cases hw : Region.wanted oj (yielded ops a.tmps) with
 | false =>
  simp only [hw, Bool.false_eq_true, if_false] at h ⊢;exact ⟨kp a _ hy, by rw [← cm]; exact h⟩
 | true =>
  simp only [hw, if_true] at h ⊢;rcases h with h | ⟨h, hl⟩
  ·left
   unfold Oper.wp at h ⊢;rw [e1] at h;generalize (execOp a.eval oj).run P w = r at h ⊢
   cases r with
   | halt x w' => cases x <;> first | exact hQ _ _ _ _ _ h | exact h
   | ok n w' =>
    cases n <;> simp only [Oper.upon] at h ⊢
    case value u => exact ⟨kp a u hy, by rw [← cm]; exact h⟩
    case skip => exact ⟨kp a _ hy, by rw [← cm]; exact h⟩
    case defer d => exact ⟨kp _ _ (kd d), by rw [← cm, ← Act.put_defers]; exact h⟩
    case enter f args =>
     refine Calls.mono h fun e w2 he => ?_;cases e with
     | returned u => exact ⟨kp a u hy, by rw [← cm]; exact he⟩
     | panicked c => exact hQ _ _ _ _ _ he
     | outgrown => exact he
    case row row args => exact Rows.mono h fun u w2 he => ⟨kp a u hy, by rw [← cm]; exact he⟩
  ·right
   exact ⟨by unfold Oper.asks at h ⊢; rw [e1] at h; exact h, hl⟩
theorem rYields.sub {C C' : World → Prop} {o : Oper} {v : Value} {a : Act} (h : rYields P ops C o v a) (hs : ∀ x, C' x → C x) : rYields P ops C' o v a :=
 h.imp (fun ⟨h1, h2⟩ => ⟨h1, fun w hw => h2 w (hs w hw)⟩) id
theorem zDz {i : Nat} {o : Oper} {rest : Plan} {C : World → Prop} {v : Value} {a : Act} {w : World} (ho : ops[i]? = some o) (hy : rYields P ops C o v a) (h : flow P ops n Q rest C (a.put o.dst v) w) : flow P ops n Q (.run i rest) C a w := by
 refine ⟨o, ho, ?_⟩;rcases hy with ⟨h1, h2⟩ | ⟨h1, rfl⟩
 ·rw [if_pos h1]; exact ⟨v, h2, h⟩
 ·rw [if_neg (by rw [h1]; simp)]; exact h
theorem zDl {i : Nat} {rest : Plan} {C : World → Prop} {a : Act} {w : World} (h : flow P ops n Q (.run i rest) C a w) : ∃ o v, ops[i]? = some o ∧ rYields P ops C o v a ∧ flow P ops n Q rest C (a.put o.dst v) w := by
 obtain ⟨o, ho, h⟩ := h;cases hw : Region.wanted o (yielded ops a.tmps) with
 | true =>
  rw [if_pos hw] at h;obtain ⟨v, h1, h2⟩ := h;exact ⟨o, v, ho, .inl ⟨hw, h1⟩, h2⟩
 | false =>
  rw [if_neg (by rw [hw]; simp)] at h;exact ⟨o, undef, ho, .inr ⟨hw, rfl⟩, h⟩
theorem zIs (hsel : Region.noSelect ops = true) {C : World → Prop} {i : Nat} {w : World} : ∀ (pl : Plan) (l : Array Bool) (a : Act), planB md n ops [] pl l = true → i ∈ Region.ready md ops l → i ∈ pl.runs → flow P ops n Q pl C a w →
    ∃ o v, ops[i]? = some o ∧ rYields P ops C o v a ∧ flow P ops n Q (pl.drop i) C (a.put o.dst v) w ∧ planB md n ops [] (pl.drop i) (l.setIfInBounds i true) = true
 | .run j r, l, a, hB, hr, hm, hf => by
  simp only [planB, Bool.and_eq_true, List.isEmpty_nil, and_true] at hB;obtain ⟨⟨⟨hjn, hjr⟩, hfr⟩, hB⟩ := hB;have hjr' : j ∈ Region.ready md ops l := by simpa using hjr
  obtain ⟨oj, u, hoj, hyj, hf⟩ := zDl hf;by_cases hji : j = i
  ·subst hji;simp only [Plan.drop, if_true];exact ⟨oj, u, hoj, hyj, hf, hB⟩
  ·have hm' : i ∈ r.runs := by
     simp only [Plan.runs, List.mem_cons] at hm;rcases hm with hm | hm
     ·exact absurd hm.symm hji
     ·exact hm
   obtain ⟨oi, v, hoi, hyi, hfi, hBi⟩ := zIs hsel r _ _ hB (ready_mono hr (Ne.symm hji)) hm' hf;obtain ⟨g1, g2, g3⟩ := Oper.apart_spec (zK7 hoj hfr hji (mem_ready.1 hjr').1 hoi hr);have s := fun k o (ho : ops[k]? = some o) cs b => Region.noSelect_spec hsel k o cs b ho;have hyi' : rYields P ops C oi v a := hyi.same (execOp_put (ops := ops) oi (s i oi hoi) a oj.dst u g1).symm (wanted_put oi a oj.dst u g1).symm;have hyj' : rYields P ops C oj u (a.put oi.dst v) := hyj.same (execOp_put (ops := ops) oj (s j oj hoj) a oi.dst v g3) (wanted_put oj a oi.dst v g3);refine ⟨oi, v, hoi, hyi', ?_, ?_⟩
   ·simp only [Plan.drop, if_neg hji];refine zDz hoj hyj' ?_;rw [← Act.put_comm a u v g2];exact hfi
   ·simp only [Plan.drop, if_neg hji, planB, Bool.and_eq_true, List.isEmpty_nil, and_true];refine ⟨⟨⟨hjn, by simpa using ready_mono hjr' hji⟩, zIq hfr⟩, ?_⟩;rw [Array.setIfInBounds_comm _ _ (Ne.symm hji)];exact hBi
 | .alt _ _ _, _, _, _, _, hm, _ => by cases hm
 | .stop, _, _, _, _, hm, _ => by cases hm
 | .tail, _, _, _, _, hm, _ => by cases hm
theorem zEz (hsel : Region.noSelect ops = true) (hQ : ∀ c x v a w, Q (.panic c) (Act.put a x v) w → Q (.panic c) a w) {C : World → Prop} {i : Nat} {w0 w : World} (hw : Ext w0 w) : ∀ (pl : Plan) (seen : List Nat) (l : Array Bool) (a : Act), planB md n ops seen pl l = true → i ∈ Region.ready md ops l →
    i ∉ pl.runs → i ∉ seen → i < n → flow P ops n Q pl C a w0 →
    wpOp P ops Q i (fun a' w' => ∃ C' : World → Prop, (∀ x, C' x → C x) ∧ (∀ x y, Ext x y → C' x → C' y) ∧ C' w' ∧ flow P ops n Q (pl.goto i) C' a' w') a w ∧ planB md n ops [] (pl.goto i) (l.setIfInBounds i true) = true
 | .run j r, seen, l, a, hB, hr, hm, _, hin, hf => by
  simp only [planB, Bool.and_eq_true] at hB;obtain ⟨⟨⟨⟨hjn, _⟩, hjr⟩, hfr⟩, hB⟩ := hB;have hjr' : j ∈ Region.ready md ops l := by simpa using hjr
  have hji : j ≠ i := fun e => hm (by rw [e]; exact List.mem_cons_self);obtain ⟨oj, u, hoj, hyj, hf⟩ := zDl hf;obtain ⟨h1, h2⟩ := zEz hsel hQ hw r [] _ _ hB (ready_mono hr (Ne.symm hji)) (fun h => hm (List.mem_cons_of_mem _ h)) (by simp) hin hf;obtain ⟨_, oi, hoi, _⟩ := mem_ready.1 hr;have s := fun k o (ho : ops[k]? = some o) cs b => Region.noSelect_spec hsel k o cs b ho;have hap := zK7 hoj hfr hji (mem_ready.1 hjr').1 hoi hr;refine ⟨wpOp_mono (fun a' w' h => ?_) (wpOp_putR hoi hap (s j oj hoj) (s i oi hoi) hQ hyj h1), ?_⟩
  ·obtain ⟨hy, C', hs, hc, hC, hf⟩ := h;exact ⟨C', hs, hc, hC, zDz hoj (rYields.sub hy hs) hf⟩
  ·simp only [Plan.goto, planB, Bool.and_eq_true, List.isEmpty_nil, and_true];refine ⟨⟨⟨hjn, by simpa using ready_mono hjr' hji⟩, zIq hfr⟩, ?_⟩;rw [Array.setIfInBounds_comm _ _ (Ne.symm hji)];exact h2
 | .alt k a2 o, seen, l, a, hB, hr, hm, hs, hin, hf => by
  simp only [planB, Bool.and_eq_true] at hB;obtain ⟨⟨⟨_, _⟩, hB1⟩, hB2⟩ := hB;obtain ⟨⟨ok, hok, h1⟩, h2⟩ := hf;by_cases hki : k = i
  ·subst hki;simp only [Plan.goto, if_true];refine ⟨?_, hB1⟩;have := h1 w hw;unfold wpOp;simp only [hok];split
   ·rename_i hwt; rw [if_pos hwt] at this; exact .inl this
   ·rename_i hwt; rw [if_neg hwt] at this; exact this
  ·simp only [Plan.goto, if_neg hki];have hs' : i ∉ k :: seen := fun h => by
    rcases List.mem_cons.1 h with h | h
    ·exact hki h.symm
    ·exact hs h
   cases o with
   | run j r => simp [planB] at hB2
   | alt k2 a3 o2 => exact zEz hsel hQ hw (.alt k2 a3 o2) _ _ _ hB2 hr (by simp [Plan.runs]) hs' hin h2
   | stop => exact zEz hsel hQ hw .stop _ _ _ hB2 hr (by simp [Plan.runs]) hs' hin h2
   | tail => simp [planB] at hB2
 | .stop, seen, l, a, hB, hr, _, hs, _, _ => by
  simp only [planB, Bool.and_eq_true] at hB;have := List.all_eq_true.1 hB.2 i hr;exact absurd (by simpa using this) hs
 | .tail, seen, l, a, hB, hr, _, hs, hin, _ => by
  simp only [planB, Bool.and_eq_true] at hB;have := seqB_ready hB.2 i hr;omega
def undone (n : Nat) (l : Array Bool) : Nat := ((List.range n).filter fun i => !l.getD i true).length
theorem zGa {p q : Nat → Bool} {x : Nat} : ∀ {l : List Nat}, (∀ y, q y = true → p y = true) → x ∈ l → p x = true → q x = false → (l.filter q).length < (l.filter p).length
 | [], _, hx, _, _ => by cases hx
 | y :: l, h, hx, hp, hq => by
  have le : ∀ l : List Nat, (l.filter q).length ≤ (l.filter p).length := fun l => by
   induction l with
   | nil => simp
   | cons z l ih =>
    cases hz : q z with
    | true => rw [List.filter_cons_of_pos hz, List.filter_cons_of_pos (h z hz)]; simpa using ih
    | false =>
     rw [List.filter_cons_of_neg (by rw [hz]; simp)];cases hz2 : p z with
     | true => rw [List.filter_cons_of_pos hz2, List.length_cons]; omega
     | false => rw [List.filter_cons_of_neg (by rw [hz2]; simp)]; exact ih
  rcases List.mem_cons.1 hx with rfl | hx
  ·rw [List.filter_cons_of_pos hp, List.filter_cons_of_neg (by rw [hq]; simp), List.length_cons];have := le l; omega
  ·have ih := zGa h hx hp hq;cases hz : q y with
   | true => rw [List.filter_cons_of_pos hz, List.filter_cons_of_pos (h y hz)]; simpa using ih
   | false =>
    rw [List.filter_cons_of_neg (by rw [hz]; simp)];cases hz2 : p y with
    | true => rw [List.filter_cons_of_pos hz2, List.length_cons]; omega
    | false => rw [List.filter_cons_of_neg (by rw [hz2]; simp)]; exact ih
theorem undone_set {l : Array Bool} {i : Nat} (hi : i < n) (hs : l.size = ops.size) (hi2 : i < ops.size) (hu : l.getD i true = false) : undone n (l.setIfInBounds i true) < undone n l := by
 refine zGa (x := i) (fun y hy => ?_) (List.mem_range.2 hi) (by rw [hu]; rfl) (by simp [hs, hi2]);by_cases hiy : i = y
 ·subst hiy; rw [hu]; rfl
 ·rw [getD_set_ne true hiy] at hy; exact hy
theorem zH7 : ∀ (f : Nat) (l : Array Bool) (a : Act) (w : World), wpAny P md ops Q f l a w → wpAny P md ops Q (f + 1) l a w
 | 0, l, a, w, h => ⟨fun _ => h.2, fun i hi => by rw [h.1] at hi; cases hi⟩
 | f + 1, l, a, w, h => ⟨h.1, fun i hi => wpOp_mono (fun a' w' h' => zH7 f _ a' w' h') (h.2 i hi)⟩
theorem wpAny_le {f g : Nat} (hfg : f ≤ g) {l : Array Bool} {a : Act} {w : World} (h : wpAny P md ops Q f l a w) : wpAny P md ops Q g l a w := by
 induction hfg with
 | refl => exact h
 | step _ ih => exact zH7 _ _ _ _ ih
theorem zHk (hsel : Region.noSelect ops = true) (hn : n < ops.size) (hsk : Region.sinkB md ops n = true) (hch : Region.chainB md ops n = true) (hQ : ∀ c x v a w, Q (.panic c) (Act.put a x v) w → Q (.panic c) a w) : ∀ (f : Nat) (pl : Plan) (C : World → Prop) (l : Array Bool) (a : Act) (w0 w : World),
    planB md n ops [] pl l = true → HeadInv md ops n l → undone n l + (ops.size - n) ≤ f → (∀ x y, Ext x y → C x → C y) → C w → Ext w0 w → flow P ops n Q pl C a w0 → wpAny P md ops Q f l a w := by
 intro f;induction f with
 | zero => intro pl C l a w0 w hB hs hu _ _ hw hf; omega
 | succ f ih =>
  intro pl C l a w0 w hB inv hu hc hC hw hf;by_cases hnt : pl = .tail
  ·subst hnt;simp only [planB, Bool.and_eq_true, List.isEmpty_nil, true_and] at hB;have hl : (ops.toList.drop n).length = ops.size - n := by simp
   refine wpAny_le (f := ops.size - n) (by omega) ?_;rw [← hl];exact wpAny_of_seq _ n l a w (fun j => by simp [List.getElem?_drop]) (by rw [hl]; exact hB) (hf w hw)
  have hne : Region.ready md ops l ≠ [] := fun hr => by
   cases pl with
   | run i r => simp [planB, hr] at hB
   | alt h a2 o => simp [planB, hr] at hB
   | stop => simp [planB] at hB
   | tail => exact hnt rfl
  refine ⟨fun hr => absurd hr hne, fun i hi => ?_⟩;obtain ⟨h0, o, ho, _⟩ := mem_ready.1 hi;have hisz := (Array.getElem?_eq_some_iff.1 ho).1;rcases Nat.lt_or_ge i n with hin | hin
  ·have hlt := undone_set (ops := ops) hin inv.size hisz h0;by_cases hm : i ∈ pl.runs
   ·obtain ⟨oi, v, hoi, hy, hf2, hB2⟩ := zIs hsel pl l a hB hi hm hf;exact zAw hoi hC hy fun w' hw' => ih _ C _ _ w0 w' hB2 (inv.set hi hin) (by omega) hc (hc _ _ hw' hC) (Ext.trans hw hw') hf2
   ·obtain ⟨h1, hB2⟩ := zEz hsel hQ hw pl [] l a hB hi hm (by simp) hin hf;refine wpOp_mono (fun a' w' h => ?_) h1;obtain ⟨C', _, hc', hC', hf2⟩ := h;exact ih _ C' _ _ w' w' hB2 (inv.set hi hin) (by omega) hc' hC' (Below.refl _ _) hf2
  ·exfalso
   have hdone : ∀ j, j < n → l.getD j true = true := fun j hj => by
    cases h : l.getD j true with
    | true => rfl
    | false => exact absurd hi (tail_waits hsk hch hn inv _ j rfl hj h i hin)
   cases pl with
   | run j r =>
    simp only [planB, Bool.and_eq_true, decide_eq_true_eq] at hB;have h1 : j ∈ Region.ready md ops l := by simpa using hB.1.1.2
    have := (mem_ready.1 h1).1;rw [hdone j hB.1.1.1.1] at this; cases this
   | alt h a2 o =>
    simp only [planB, Bool.and_eq_true, decide_eq_true_eq] at hB;have h1 : h ∈ Region.ready md ops l := by simpa using hB.1.1.2
    have := (mem_ready.1 h1).1;rw [hdone h hB.1.1.1] at this; cases this
   | stop => simp [planB] at hB
   | tail => exact hnt rfl
theorem wp_region_flow {id : Nat} {a : Act} {w : World} {l : List Oper} (n : Nat) (pl : Plan) (hm : P.follows .mixedOrders = true) (hB : (Region.noSelect l.toArray && decide (n < l.toArray.size) && Region.sinkB .any l.toArray n && Region.chainB .any l.toArray n && planB .any n l.toArray [] pl (Array.replicate l.toArray.size false)) = true)
    (hQ : ∀ c x v a w, Q (.panic c) (Act.put a x v) w → Q (.panic c) a w) {C : World → Prop} (hC : ∀ w', Below w.heap.size w w' → C w') (hc : ∀ w', C w' → Below w.heap.size w w') (h : flow P l.toArray n Q pl C a w) : (Code.region id l.toArray true).wp P Q a w := by
 simp only [Bool.and_eq_true, decide_eq_true_eq] at hB;obtain ⟨⟨⟨⟨h1, h2⟩, h3⟩, h4⟩, h5⟩ := hB;refine wp_region_any hm ?_;have hx : Ext w { w with drawn := w.drawn + 1 } := ⟨rfl, rfl, rfl, Nat.le_refl _, fun _ _ => rfl⟩;exact zHk h1 h2 h3 h4 hQ _ pl C _ a w _ h5 headInv0 (by
  have := List.length_filter_le (fun i => !(Array.replicate l.toArray.size false).getD i true) (List.range n);rw [List.length_range] at this;unfold undone;omega) (fun x y hxy hx => hC _ (Ext.trans (a := w) (hc _ hx) hxy)) (hC _ hx) hx h
theorem flow_at {k : Nat} {after other : Plan} {C : World → Prop} {a : Act} {w : World} {o : Oper} (hC : ∀ x y, Ext x y → C x → C y) (ho : ops[k]? = some o) (h2 : flow P ops n Q other C a w)
    (h : ∀ w', Ext w w' → ∀ K : Act → World → Prop, (∀ a' w2, C w2 → flow P ops n Q after C a' w2 → K a' w2) → if Region.wanted o (yielded ops a.tmps) then o.wp P a w' K Q else K (a.put o.dst undef) w') : flow P ops n Q (.alt k after other) C a w :=
 ⟨⟨o, ho, fun w' hw' => h w' hw' _ fun _ _ h1 h2 => ⟨C, fun _ h => h, hC, h1, h2⟩⟩, h2⟩
end
end Go.Proofs.YtjkfakaehjmnbaaGreat.FT
namespace Go.Proofs.YtjkfakaehjmnbaaGreat
open Go.RowKit Go.Sort Go.Lib
attribute [local go_sem] rOper rAt rUpon cell_set sg_i64 sg_u64 alloc_cell alloc_frozen
attribute [local go_sem 10000] pt_eql pt_neq wal_eql wal_neq
attribute [local irreducible] rWalk
def PredFrm (g : Nat) (lb : Array Value) (p : Wl → Bool) (w : World) (b : Nat) : Prop :=
 ∀ (W : World) (x : Wl), Frm w W (· = b) → Calls Tryz.prog g (#[.agg (cW x).toArray] ++ lb) W fun e w' => e = .returned (.bool (p x)) ∧ Below W.heap.size W w'
theorem PredFrm.below {g : Nat} {lb : Array Value} {p : Wl → Bool} {w : World} {b : Nat} (h : PredFrm g lb p w b) : PredBelow Tryz.prog g lb (fun x => .agg (cW x).toArray) p w := fun W x hb =>
 (h W x (Frm.of_below hb)).mono fun _ _ ⟨he, hx⟩ => ⟨he, (upB hb hx)⟩
end Go.Proofs.YtjkfakaehjmnbaaGreat
namespace Go.Proofs.YtjkfakaehjmnbaaGreat
open Go.RowKit Go.Sort Go.Lib
theorem zD1 {w : World} {b : Nat} {L : List Wl} (h : Box w b (L.flatMap cW) 77) : RowAt cW 5 w (some ⟨b, 0, none⟩) L := fun j x hj => by
 have hl := List.getElem?_eq_some_iff.1 hj;refine ⟨_, rfl, h.lt, fun i u hu => ?_⟩;have hi : i < 5 := (List.getElem?_eq_some_iff.1 hu).1;rw [Addr.add_lit, Addr.add_lit, h.f.1, Nat.zero_add, zBb zK4 L j i x hj hi];exact hu
theorem zEb (b o : Nat) : Flat (some ⟨b, o, none⟩) := fun ad e => by cases e; rfl
theorem SetAt.alloc {w : World} {sb : Nat} {v : Value} {L : List Wl} (S : SetAt w sb v L) (o : Obj) : SetAt (w.alloc o) sb v L := S.ext ((Below.refl _ w).alloc (Nat.le_refl _) o) rfl
def pM : Pt := ⟨1, 0⟩
end Go.Proofs.YtjkfakaehjmnbaaGreat
namespace Go.Proofs.YtjkfakaehjmnbaaGreat
section
variable {a : Pt} {x y k i : Int}
def pI (a : Pt) (x y i : Int) : Pt := ⟨a.x + i * x, a.y + i * y⟩
end
open Go.RowKit Go.Sort
attribute [local go_sem] rOper rAt rUpon cell_set sg_i64 sg_u64 alloc_cell alloc_frozen
attribute [local go_sem 10000] pt_eql pt_neq wal_eql wal_neq
attribute [local irreducible] rWalk
theorem rcmpW_0 (S T : Wl) (h0 : ¬ cmpP S.A T.A = 0) (w : World) :
    Calls Tryz.prog 42 #[.agg #[.int .i64 S.A.x, .int .i64 S.A.y, .int .i64 S.B.x, .int .i64 S.B.y, .int .i64 S.K], .agg #[.int .i64 T.A.x, .int .i64 T.A.y, .int .i64 T.B.x, .int .i64 T.B.y, .int .i64 T.K]] w fun e w' => e = .returned (.int .i64 (cmpP S.A T.A)) ∧ Below w.heap.size w w' := by
 have c1 := zAd S.A T.A;have hd : (cmpP S.A T.A == 0) = false := by simpa using h0
 clear h0;generalize cmpP S.A T.A = n at *
 go_enter Tryz.func42, Tryz.ntmps42
 go_wp2_with fail;refine zA1 fun W1 hW => ?_;obtain ⟨Bs, Bt, hw⟩ := N2 hW;clear hW;refine (c1 _).mono ?_;rintro e w2 ⟨rfl, hb⟩;obtain ⟨Bs, Bt, hw, F_st⟩ := X2 Bs Bt hw hb;clear hb;go_wp2
 go_ret
 exact ⟨rfl, by have hl := hw.size; go_grown⟩
theorem rcmpW_1 (S T : Wl) (h0 : cmpP S.A T.A = 0) (h1 : ¬ cmpP S.B T.B = 0) (w : World) :
    Calls Tryz.prog 42 #[.agg #[.int .i64 S.A.x, .int .i64 S.A.y, .int .i64 S.B.x, .int .i64 S.B.y, .int .i64 S.K], .agg #[.int .i64 T.A.x, .int .i64 T.A.y, .int .i64 T.B.x, .int .i64 T.B.y, .int .i64 T.K]] w fun e w' => e = .returned (.int .i64 (cmpP S.B T.B)) ∧ Below w.heap.size w w' := by
 have c1 := zAd S.A T.A;have c2 := zAd S.B T.B;rw [h0] at c1;have hd : (cmpP S.B T.B == 0) = false := by simpa using h1
 clear h0 h1;generalize cmpP S.B T.B = n at *
 go_enter Tryz.func42, Tryz.ntmps42
 go_wp2_with fail;refine zA1 fun W1 hW => ?_;obtain ⟨Bs, Bt, hw⟩ := N2 hW;clear hW;refine (c1 _).mono ?_;rintro e w2 ⟨rfl, hb⟩;obtain ⟨Bs, Bt, hw, F_st⟩ := X2 Bs Bt hw hb;clear hb;go_wp2_with fail;refine (c2 _).mono ?_;rintro e w3 ⟨rfl, hb⟩;clear F_st;obtain ⟨Bs, Bt, hw, F_st⟩ := X2 Bs Bt hw hb;clear hb;go_wp2
 go_ret
 exact ⟨rfl, by have hl := hw.size; go_grown⟩
theorem rcmpW_2 (S T : Wl) (h0 : cmpP S.A T.A = 0) (h1 : cmpP S.B T.B = 0) (hs : 0 ≤ S.K ∧ S.K ≤ 2) (ht : 0 ≤ T.K ∧ T.K ≤ 2) (w : World) :
    Calls Tryz.prog 42 #[.agg #[.int .i64 S.A.x, .int .i64 S.A.y, .int .i64 S.B.x, .int .i64 S.B.y, .int .i64 S.K], .agg #[.int .i64 T.A.x, .int .i64 T.A.y, .int .i64 T.B.x, .int .i64 T.B.y, .int .i64 T.K]] w fun e w' => e = .returned (.int .i64 (cmpN S.K T.K)) ∧ Below w.heap.size w w' := by
 have c1 := zAd S.A T.A;have c2 := zAd S.B T.B;rw [h0] at c1;rw [h1] at c2;have c3 : ∀ W : World, Calls Tryz.prog 89 #[.int .i64 (S.K - T.K)] W fun e w' => e = .returned (.int .i64 (sgn (S.K - T.K))) ∧ Below W.heap.size W w' := fun W => (zI5 (S.K - T.K) W).mono fun _ _ ⟨h1, h2⟩ => ⟨h1, by rw [h2]; exact Below.refl _ _⟩;have hw0 : wrap64 (S.K - T.K) = S.K - T.K := by rw [w64]; omega
 rw [show cmpN S.K T.K = sgn (S.K - T.K) by rfl];generalize sgn (S.K - T.K) = n at *
 clear h0 h1
 go_enter Tryz.func42, Tryz.ntmps42
 go_wp2_with fail;refine zA1 fun W1 hW => ?_;obtain ⟨Bs, Bt, hw⟩ := N2 hW;clear hW;refine (c1 _).mono ?_;rintro e w2 ⟨rfl, hb⟩;obtain ⟨Bs, Bt, hw, F_st⟩ := X2 Bs Bt hw hb;clear hb;go_wp2_with fail;refine (c2 _).mono ?_;rintro e w3 ⟨rfl, hb⟩;clear F_st;obtain ⟨Bs, Bt, hw, F_st⟩ := X2 Bs Bt hw hb;clear hb;go_wp2_with fail;refine (c3 _).mono ?_;rintro e w4 ⟨rfl, hb⟩;clear F_st;obtain ⟨Bs, Bt, hw, F_st⟩ := X2 Bs Bt hw hb;clear hb;go_wp2
 go_ret
 exact ⟨rfl, by have hl := hw.size; go_grown⟩
theorem rcmpW_any (S T : Wl) (hs : 0 ≤ S.K ∧ S.K ≤ 2) (ht : 0 ≤ T.K ∧ T.K ≤ 2) (w : World) :
    Calls Tryz.prog 42 #[.agg #[.int .i64 S.A.x, .int .i64 S.A.y, .int .i64 S.B.x, .int .i64 S.B.y, .int .i64 S.K], .agg #[.int .i64 T.A.x, .int .i64 T.A.y, .int .i64 T.B.x, .int .i64 T.B.y, .int .i64 T.K]] w fun e w' => e = .returned (.int .i64 (cmpW S T)) ∧ Below w.heap.size w w' := by
 by_cases h0 : cmpP S.A T.A = 0
 ·by_cases h1 : cmpP S.B T.B = 0
  ·rw [show cmpW S T = cmpN S.K T.K by unfold cmpW; simp [h0, h1]]; exact rcmpW_2 S T h0 h1 hs ht w
  ·rw [show cmpW S T = cmpP S.B T.B by unfold cmpW; simp [h0, h1]]; exact rcmpW_1 S T h0 h1 w
 ·rw [show cmpW S T = cmpP S.A T.A by unfold cmpW; simp [h0]]; exact rcmpW_0 S T h0 w
end Go.Proofs.YtjkfakaehjmnbaaGreat
