/- Put together: DocE, CdtG, CdtD, CdtF, GeoA. -/
import Derived.Test.YtjkfakaehjmnbaaGreatRows
import Derived.Test.YtjkfakaehjmnbaaGreatPmf11
import Derived.Test.YtjkfakaehjmnbaaGreatPmf9
import Derived.Test.YtjkfakaehjmnbaaGreatPmf1
import Derived.WalkKit
import Derived.WalkSpells
import Derived.WalkLawsBesides
import Derived.Laws.Externs
import Derived.Deep.QuietTactic
import Derived.BigQuiet
import Derived.Lib.Hide
import Derived.Handy
import Derived.OwnWalk
import Derived.Maps.AppendAt
import Derived.Laws.AppendOwnNone
import Derived.Deep.Slices
import Derived.LoopN
import Derived.RegionTactic
import Derived.Test.YtjkfakaehjmnbaaGreatPmf6
import Derived.Test.YtjkfakaehjmnbaaGreatPmf10
import Derived.Maps.RangeWalk
import Derived.Test.YtjkfakaehjmnbaaGreatPmf7
set_option maxRecDepth 100000
set_option maxHeartbeats 8000000
namespace Go.Proofs.YtjkfakaehjmnbaaGreat
open Go.RowKit Go.Sort
attribute [local go_sem] rOper rAt rUpon cell_set sg_i64 sg_u64 alloc_cell alloc_frozen
attribute [local go_sem 10000] pt_eql pt_neq wal_eql wal_neq
attribute [local irreducible] rWalk
theorem RowAt.partW {α : Type} {c : α → List Value} {k : Nat} {w : World} {a : Option Addr} {L : List α} (h : RowAt c k w a L) (lo m cap : Nat) (hcap : L.length ≤ cap) :
    RowAt c k w (if cap = lo then a else a.map fun x => x.add (lo * k)) ((L.drop lo).take m) := fun j x hj => by
 have hj2 : L[lo + j]? = some x := by
  rw [List.getElem?_take] at hj;split at hj
  ·rwa [List.getElem?_drop] at hj
  ·cases hj
 obtain ⟨ad, h1, h2, h3⟩ := h (lo + j) x hj2;have hl := (List.getElem?_eq_some_iff.1 hj2).1;refine ⟨ad.add (lo * k), ?_, by rw [zAk]; exact h2, fun i u hu => ?_⟩
 ·rw [if_neg (by omega), h1]; rfl
 ·rw [show (ad.add (lo * k)).add (j * k) = ad.add ((lo + j) * k) by rw [Go.Deep.add_add, ← Nat.add_mul]];exact h3 i u hu
theorem run_from_wal (a : Option Addr) (n cap lo : Nat) (h1 : lo ≤ n) (w : World) : (Instr.slice 63 (.slice a n cap) (some (.int .i64 lo)) none none).run Tryz.prog w = .ok (.slice (if cap = lo then a else a.map fun x => x.add (lo * 5)) (n - lo) (cap - lo)) w := by
 simp [Instr.slice, Instr.sliceBounds, Instr.sliceBound, asIntOf, run_underlying Tryz.underlying63, go_sem, h1]
theorem run_upto_wal (a : Option Addr) (n cap hi : Nat) (h1 : hi ≤ cap) (w : World) : (Instr.slice 63 (.slice a n cap) none (some (.int .i64 hi)) none).run Tryz.prog w = .ok (.slice a hi cap) w := by
 cases a <;> simp [Instr.slice, Instr.sliceBounds, Instr.sliceBound, asIntOf, run_underlying Tryz.underlying63, go_sem, h1, Addr.add]
attribute [local go_sem ↓ 10000] run_from_wal run_upto_wal
theorem zAh {ops : Array Oper} {o : Oper} {a : Act} {w : World} {K : Act → World → Prop} {Q : Exit → Act → World → Prop} {E : Prop}
    (hw : Region.wanted o (yielded ops a.tmps) = true) (d x : Operand) (hop : o.op = Op.call { callee := Callee.builtin Builtin.append, args := #[d, x], argTypes := #[63, 63] })
    (B : Nat) (v : Value) (L : List Wl) (hd : a.eval d = v) (hown : WRow w B v L) (ad : Option Addr) (n c : Nat) (M : List Wl) (hx : a.eval x = .slice ad n c) (hM : M.length = n) (hrow : RowAt cW 5 w ad M) (hfl : Flat ad) (hnil : ad = none → n = 0 ∧ c = 0) (hL : L.length + n ≤ 1000000) (hbase : B ≤ w.heap.size) (d0 : Option Tmp) (hd0 : o.dst = d0)
    (h : ∀ w' v', WRow w' B v' (L ++ M) → Frm w w' (fun k => v.ownBlock = some k) → Fresh v v' w.heap.size → K (a.put d0 v') w') : if Region.wanted o (yielded ops a.tmps) = true then Oper.wp Tryz.prog o a w K Q else E := by
 subst hd0;rw [if_pos hw];obtain ⟨i0, hi, hz0, hz1, hz2⟩ := info_parts info_wall;cases ad with
 | none =>
  obtain ⟨rfl, rfl⟩ := hnil rfl;have hM0 : M = [] := List.eq_nil_of_length_eq_zero hM;subst hM0;rw [List.append_nil] at h;have hr := run_append_owned_none (P := Tryz.prog) (w := w) B 63 o.type 77 i0 5 Tryz.underlying63 hi v L.length _ hown;unfold Oper.wp;simp [execOp, hop, resolve, invoke, builtin, hd, hx, hr, Result.andThen];exact h w v hown (Frm.refl w _) (fun g e => .inl e)
 | some A =>
  have hA : A = ⟨A.block, A.off, none⟩ := by have := hfl A rfl; cases A; simp_all
  rw [hA] at hx hrow;obtain ⟨v', w', hr, h2, h3, _, h4⟩ := run_append_own_at (P := Tryz.prog) w B 63 o.type 77 i0 _ 5 40 Tryz.underlying63 hi hz0 hz1 hz2 rfl (by decide) v L.length _ hown ⟨A.block, A.off, none⟩ n c (M.flatMap cW) (by rw [zB4 zK4, hM]) (fun j u hu => by rw [Addr.add_lit]; exact (hrow.flat j u hu).2) (fun u hu => by
   obtain ⟨y, _, hy⟩ := List.mem_flatMap.1 hu;exact cW_one y u hy) (by unfold maxLen; omega) (by omega) hbase
  have hR : WRow w' B v' (L ++ M) := by
   unfold WRow;rw [List.length_append, List.flatMap_append, hM];exact h2
  unfold Oper.wp;simp [execOp, hop, resolve, invoke, builtin, hd, hx, hr, Result.andThen];exact h w' v' hR (Frm.of_grown h3 (p := fun k => v.ownBlock = some k) (fun g e => e)) (fun g e => by
   rcases h4 with h4 | h4
   ·exact .inl (h4 ▸ e)
   ·right; rw [h4] at e; exact Nat.le_of_eq (Option.some.inj e))
theorem zFf (w : World) (B : Nat) (hB : B ≤ w.heap.size) : WRow (w.alloc (.cells #[] 77)) B (.slice (some ⟨w.heap.size, 0, none⟩) 0 0) [] := World.ownsRow_made w #[] 0 hB (Nat.zero_le _) (by simp)
structure DocAt (w : World) (db : Nat) (v : Value) (L : List Wl) : Prop where
 box : Box w db [v] 71
 row : WRow w 0 v L
 ne : v.ownBlock ≠ some db
 le : L.length ≤ 1000000
theorem DocAt.rd {w : World} {db : Nat} {v : Value} {L : List Wl} (S : DocAt w db v L) : ∃ a c, v = .slice a L.length c ∧ DocRd w db a c L.length L ∧ (a = none → L = [] ∧ c = 0) := by
 obtain ⟨a, c, h1, h2, h3⟩ := S.row.row;refine ⟨a, c, h1, ⟨h1 ▸ S.box, h2, rfl, S.le, ?_, h3⟩, fun e => ?_⟩
 ·rcases S.row.box with ⟨e, e2⟩ | ⟨_, _, _, e, _, _, h, _⟩
  ·rw [e2]; exact Nat.zero_le _
  ·rw [h1] at e; simp only [Value.slice.injEq] at e; omega
 ·rcases S.row.box with ⟨e1, e2⟩ | ⟨_, _, _, e2, _⟩
  ·rw [h1] at e1; simp only [Value.slice.injEq] at e1; exact ⟨e2, e1.2.2⟩
  ·rw [h1, e] at e2; simp at e2
theorem DocAt.ext {w w' : World} {db : Nat} {v : Value} {L : List Wl} {n : Nat} (S : DocAt w db v L) (hb : Below n w w') (hn : n = w.heap.size) : DocAt w' db v L :=
 ⟨S.box.ext hb hn, S.row.ext hb hn, S.ne, S.le⟩
theorem DocAt.ee {w w' : World} {db : Nat} {v : Value} {L : List Wl} (S : DocAt w db v L) (hb : Below w.heap.size w w') : DocAt w' db v L := S.ext hb rfl
theorem zFn {w wq : World} {db : Nat} {v v' : Value} {L L' : List Wl} (S : DocAt w db v L) (hb : Below w.heap.size w wq) (hown : WRow wq w.heap.size v' L') (hl : L'.length ≤ 1000000) :
    DocAt (wq.setCell ⟨db, 0, none⟩ v') db v' L' ∧ Frm w (wq.setCell ⟨db, 0, none⟩ v') (· = db) ∧ (∀ g, v'.ownBlock = some g → w.heap.size ≤ g) := by
 have hdb := S.box.lt;have hge : ∀ g, v'.ownBlock = some g → w.heap.size ≤ g := fun g e => (hown.lt g e).1;have BQ : Box wq db [v] 71 := S.box.ee hb;have hne : v'.ownBlock ≠ some db := fun e => by have := hge db e; omega
 exact ⟨⟨BQ.set 0 v', ((Frm.refl wq (· = db)).setCell ⟨db, 0, none⟩ rfl v').row (hown.base (Nat.zero_le _)) (fun g e => fun h => hne (by rw [e, h])), hne, hl⟩, (Frm.of_below (p := (· = db)) hb).setCell ⟨db, 0, none⟩ rfl v', hge⟩
def PutAt (L : List Wl) (X : Wl) (k : Nat) : Prop := k ≤ L.length ∧ (∀ (j : Nat) (h : j < L.length), k ≤ j → 0 < cmpW L[j] X) ∧ (∀ h : k - 1 < L.length, 0 < k → ¬ 0 < cmpW L[k - 1] X)
theorem zH1 {w : World} {a0 : Option Addr} {c n k : Nat} {L : List Wl} (hrow : RowAt cW 5 w a0 L) (hl : L.length = n) (hnc : n ≤ c) (hfl : Flat a0) (hk : k ≤ n) (hz : a0 = none → L = [] ∧ c = 0) :
    ∃ ad, (if c = k then a0 else a0.map fun x => x.add (k * 5)) = ad ∧ RowAt cW 5 w ad (L.drop k) ∧ Flat ad ∧ (ad = none → n - k = 0 ∧ c - k = 0) := by
 have h := hrow.partW k (n - k) c (by omega);rw [List.take_of_length_le (by rw [List.length_drop]; omega)] at h;refine ⟨_, rfl, h, fun A hA => ?_, fun e => ?_⟩
 ·split at hA
  ·exact hfl A hA
  ·cases a0 with
   | none => cases hA
   | some A0 =>
    have h0 := hfl A0 rfl;have : A0 = ⟨A0.block, A0.off, none⟩ := by cases A0; simp_all
    rw [this] at hA;simp only [Option.map_some, Addr.add_lit, Option.some.injEq] at hA;rw [← hA]
 ·have h0 : a0 = none := by
    split at e
    ·exact e
    ·cases a0 with
     | none => rfl
     | some _ => cases e
  obtain ⟨h1, h2⟩ := hz h0;subst h1 h2;simp at hl;omega
theorem zDf (db : Nat) (v : Value) (L : List Wl) (X : Wl) (hL : L.length < 1000000) (hgk : ∀ x ∈ L, 0 ≤ x.K ∧ x.K ≤ 2) (hXk : 0 ≤ X.K ∧ X.K ≤ 2) (w : World) (S : DocAt w db v L) :
    Calls Tryz.prog 50 #[.pointer (some ⟨db, 0, none⟩), .agg #[.int .i64 X.A.x, .int .i64 X.A.y, .int .i64 X.B.x, .int .i64 X.B.y, .int .i64 X.K]] w fun e w' => ∃ k v', e = .returned (.tuple #[]) ∧ PutAt L X k ∧ DocAt w' db v' (L.take k ++ X :: L.drop k) ∧ Frm w w' (· = db) ∧ (∀ g, v'.ownBlock = some g → w.heap.size ≤ g) := by
 obtain ⟨a0, c, rfl, D, hz⟩ := S.rd;have HS := Lib.hid S;clear S;have hdb := D.box.lt;obtain ⟨n, hn⟩ : ∃ n, L.length = n := ⟨_, rfl⟩;rw [hn] at D hL HS;have HM := Lib.hid hn;have hnc := D.nc;have hfl := D.flat;obtain ⟨d0, d1, d2, d3⟩ := D.box.f;have HD := Lib.hid D;have HG := Lib.hid hgk;have HXK := Lib.hid hXk;clear D hn hgk hXk
 go_enter Tryz.func50, Tryz.ntmps50
 go_wp2_with fail;refine zA2 fun W1 hW => ?_;have BX : Box W1 w.heap.size [.int .i64 X.A.x, .int .i64 X.A.y, .int .i64 X.B.x, .int .i64 X.B.y, .int .i64 X.K] 77 := by rw [hW]; exact Box.new rfl
 have hw : Below w.heap.size w W1 := by rw [hW]; go_grown
 clear hW d0 d1 d2 d3
 go_loopw [4] (fun vat wr => ∃ k : Nat, k ≤ n ∧ vat = .int .i64 k ∧ Hid (∀ (j : Nat) (h : j < L.length), k ≤ j → 0 < cmpW L[j] X) ∧ Below w.heap.size w wr ∧ Box wr w.heap.size [.int .i64 X.A.x, .int .i64 X.A.y, .int .i64 X.B.x, .int .i64 X.B.y, .int .i64 X.K] 77) (fun vat _ => (intOf vat).toNat)
 case atStart => exact ⟨n, Nat.le_refl _, rfl, Lib.hid (fun j h hj => by have := HM.out; omega), hw, BX⟩
 case round =>
  clear BX hw;obtain ⟨k, hk, rfl, HA, hwr, BX⟩ := hrel;have BD := (HD.out.ee hwr).box;have hrow := (HD.out.ee hwr).row;by_cases hk0 : k = 0
  ·have q1 : decide (0 < k) = false := by simp; omega
   have HK0 := Lib.hid hk0;clear hk0;have g_XD := J2 BX.cells BD.cells;obtain ⟨d0, d1, d2, d3⟩ := BD.f;go_wp2_with fail;refine (wp_region_tail 14 (by kernel_rfl) (by kernel_rfl) (C := fun w' => ∃ p : Regrown, w' = grow (redrawn wr p.d) p.os) rgB ?_);simp only [tK1, tK0, dP1, dP0];repeat (first | (refine zA0 (Eq.refl false) ?_; simp only [Act.put, sT2, sT1, sT0]) | (refine rWalk_step (fun K hK => ?_); go_simp; first | (refine hK _ ?_; clear hK K) | (apply Exists.intro; refine ⟨fun _ => ?_, hK _ ?_⟩; (first | with_reducible exact toExt c5 _); clear hK K)))
   refine rWalk_nil ?_;intro wx hb;replace BX := BX.ee hb;replace BD := BD.ee hb;replace hrow := hrow.ee hb;replace hwr := upB hwr hb;clear hb;clear g_XD d0 d1 d2 d3 q1;have HPUT : Hid (PutAt L X k) := Lib.hid ⟨by rw [HM.out]; exact hk, HA.out, fun _ h => by have := HK0.out; omega⟩;obtain ⟨ad, had, hdr, hfl2, hnil⟩ := zH1 hrow HM.out hnc hfl hk hz;have HAD := Lib.hid had;have HT1 := Lib.hid (show (L.take k).length = k by rw [List.length_take, HM.out]; omega);have HT2 := Lib.hid (show (L.drop k).length = n - k by rw [List.length_drop, HM.out]);clear had HA;have g_XD := J2 BX.cells BD.cells;obtain ⟨d0, d1, d2, d3⟩ := BD.f;have z2 : k ≤ c := by omega
   go_wp2_with fail;clear d0 d1 d2 d3;have hcB : ∀ w', (∃ p : Regrown, w' = grow (redrawn wx p.d) p.os) → Below wx.heap.size wx w' := fun w' h => by obtain ⟨p, rfl⟩ := h; exact below_regrown _ _ _
   refine FT.wp_region_flow 19 (.run 0 (.run 2 (.run 3 (.run 4 (.run 5 (.run 6 (.run 7 (.run 9 (.run 12 (.run 13 (.run 14 (.run 15 (.run 16 (.run 17 (.alt 1 (.alt 8 (.alt 10 (.alt 11 (.alt 18 (.tail) .stop) .stop) .stop) (.alt 10 (.alt 8 (.alt 11 (.alt 18 (.tail) .stop) .stop) .stop) .stop)) (.alt 10 (.alt 1 (.alt 8 (.alt 11 (.alt 18 (.tail) .stop) .stop) .stop) .stop) .stop)))))))))))))))) rfl (by kernel_rfl) (fun _ x _ _ _ h => by cases x <;> exact h) (C := fun w' => ∃ p : Regrown, w' = grow (redrawn wx p.d) p.os) rgB hcB ?_;have hC : ∀ x y, Ext x y → (∃ p : Regrown, x = grow (redrawn wx p.d) p.os) → (∃ p : Regrown, y = grow (redrawn wx p.d) p.os) := fun x y h1 h2 => regrown_of_below ((hcB x h2).trans (h1.mono (hcB x h2).size))
   iterate 14 (refine FT.flow_run rfl (fun K hK => ?_); go_simp; first | (refine hK _ ?_; clear hK K) | (apply Exists.intro; refine ⟨fun _ => ?_, hK _ ?_⟩; rotate_left; clear hK K))
   first | rw [HAD.out] | (have hq := HAD.out; simp only [Option.map_some] at hq; rw [hq]; clear hq)
   refine FT.flow_at hC rfl ?y10 (fun w1 hw1 K hK => ?y1)
   case y1 =>
    go_simp;have hbM : Below wx.heap.size wx (w1.alloc (.cells #[] 77)) := Below.alloc hw1 (Below.size hw1) _;have hrM := zFf w1 wx.heap.size (Below.size hw1);refine hK _ _ (regrown_of_below hbM) ?_;clear hK K;refine FT.flow_at hC rfl ?z10 (fun w2 hw2 K hK => ?z8)
    case z8 =>
     have hb2 := hbM.trans (Below.mono hw2 hbM.size);refine zAh (by rfl) _ _ (by rfl) wx.heap.size _ [] (by rfl) (hrM.ee hw2) _ k c (L.take k) (by rfl) HT1.out ((hrow.ee hb2).take k) hfl (fun e => ⟨by have h1 := (hz e).1; have h2 := HM.out; rw [h1] at h2; simp at h2; omega, (hz e).2⟩) (by simp; omega) (Below.size hb2) (some 35) (by rfl) ?_;intro w3 v12 hr12 hf12 hs12;rw [List.nil_append] at hr12;have hb3 := hb2.trans (hf12.below (fun k e => ((hrM.ee hw2).lt k e).1) hb2.size);refine hK _ _ (regrown_of_below hb3) ?_;clear hK K;simp only [Act.put, sT2, sT1, sT0];refine FT.flow_at hC rfl trivial (fun w9 hw9 K hK => ?_);go_simp;have hb9 := (upB hb3 hw9);have hbW := hb9.alloc hb9.size (.cells #[.int .i64 X.A.x, .int .i64 X.A.y, .int .i64 X.B.x, .int .i64 X.B.y, .int .i64 X.K] 77);refine hK _ _ (regrown_of_below hbW) ?_;clear hK K;obtain ⟨bx, hbx0⟩ : ∃ bx, w9.heap.size = bx := ⟨_, rfl⟩;have hbx : Box (w9.alloc (.cells #[.int .i64 X.A.x, .int .i64 X.A.y, .int .i64 X.B.x, .int .i64 X.B.y, .int .i64 X.K] 77)) bx (cW X) 77 := by rw [← hbx0]; exact Box.new rfl
     replace hr12 := (hr12.ee hw9).alloc (.cells #[.int .i64 X.A.x, .int .i64 X.A.y, .int .i64 X.B.x, .int .i64 X.B.y, .int .i64 X.K] 77);rw [hbx0];clear hbx0;refine FT.flow_at hC rfl trivial (fun w4 hw4 K hK => ?_);have hb4 := (upB hbW hw4);refine zAh (by rfl) _ _ (by rfl) wx.heap.size v12 (L.take k) (by rfl) (hr12.ee hw4) (some ⟨bx, 0, none⟩) 1 1 [X] (by rfl) rfl (zD1 (by simpa using hbx.ee hw4)) (zEb _ _) (fun e => by cases e) (by rw [HT1.out]; omega) hb4.size (some 38) (by rfl) ?_;intro w5 v13 hr13 hf13 hs13;have hb5 := hb4.trans (hf13.below (fun k e => ((hr12.ee hw4).lt k e).1) hb4.size);refine hK _ _ (regrown_of_below hb5) ?_;clear hK K;simp only [Act.put, sT2, sT1, sT0];refine FT.flow_at hC rfl trivial (fun w6 hw6 K hK => ?_);have hb6 := (upB hb5 hw6);refine zAh (by rfl) _ _ (by rfl) wx.heap.size v13 (L.take k ++ [X]) (by rfl) (hr13.ee hw6) ad (n - k) (c - k) (L.drop k) (by rfl) HT2.out (hdr.ee hb6) hfl2 hnil (by rw [List.length_append, HT1.out]; simp; omega) hb6.size (some 45) (by rfl) ?_;intro w7 v18 hr18 hf18 hs18;have hb7 := hb6.trans (hf18.below (fun k e => ((hr13.ee hw6).lt k e).1) hb6.size);refine hK _ _ (regrown_of_below hb7) ?_;clear hK K;simp only [Act.put, sT2, sT1, sT0];intro w8 hw8;have hb8 := (upB hb7 hw8);have BD8 := BD.ee hb8;have hw8' := (upB hwr hb8);obtain ⟨hS8, hF8, hG8⟩ := zFn HS.out hw8' ((hr18.ee hw8).base hwr.size) (by rw [List.length_append, List.length_append, HT1.out, HT2.out, List.length_singleton]; omega);obtain ⟨a18, n18, c18, rfl⟩ := hr18.form;obtain ⟨d0, d1, d2, d3⟩ := BD8.f;clear hr12 hr13 hr18 hf13 hs13 hf18 hs18 hbx g_XD;simp only [dP1, dP0];go_wp2;rw [List.append_assoc, List.singleton_append] at hS8;exact ⟨rfl, .tuple #[], by simp [results, Tryz.results50, go_sem], k, _, rfl, HPUT.out, hS8, hF8, hG8⟩
    case z10 =>
     refine FT.flow_at hC rfl trivial (fun w9 hw9 K hK => ?_);go_simp;have hb9 := hbM.trans (Below.mono hw9 hbM.size);have hbN := hb9.alloc hb9.size (.cells #[.int .i64 X.A.x, .int .i64 X.A.y, .int .i64 X.B.x, .int .i64 X.B.y, .int .i64 X.K] 77);refine hK _ _ (regrown_of_below hbN) ?_;clear hK K;have hrM9 := (hrM.ee hw9).alloc (.cells #[.int .i64 X.A.x, .int .i64 X.A.y, .int .i64 X.B.x, .int .i64 X.B.y, .int .i64 X.K] 77);obtain ⟨bx, hbx0⟩ : ∃ bx, w9.heap.size = bx := ⟨_, rfl⟩;have hbx9 : Box (w9.alloc (.cells #[.int .i64 X.A.x, .int .i64 X.A.y, .int .i64 X.B.x, .int .i64 X.B.y, .int .i64 X.K] 77)) bx (cW X) 77 := by rw [← hbx0]; exact Box.new rfl
     have hne : ¬ Value.ownBlock (.slice (some ⟨w1.heap.size, 0, none⟩) 0 0) = some bx := fun e => by
      have h1 := Below.size hw9;have e2 : w1.heap.size = bx := by simpa [Value.ownBlock] using e
      simp at h1;omega
     rw [hbx0];clear hbx0;refine FT.flow_at hC rfl trivial (fun w2 hw2 K hK => ?_);have hb2 := hbN.trans (Below.mono hw2 hbN.size);refine zAh (by rfl) _ _ (by rfl) wx.heap.size _ [] (by rfl) (hrM9.ee hw2) _ k c (L.take k) (by rfl) HT1.out ((hrow.ee hb2).take k) hfl (fun e => ⟨by have h1 := (hz e).1; have h2 := HM.out; rw [h1] at h2; simp at h2; omega, (hz e).2⟩) (by simp; omega) (Below.size hb2) (some 35) (by rfl) ?_;intro w3 v12 hr12 hf12 hs12;rw [List.nil_append] at hr12;have hbW := hb2.trans (hf12.below (fun k e => ((hrM9.ee hw2).lt k e).1) hb2.size);have hbx := hf12.box (hbx9.ee hw2) hne;refine hK _ _ (regrown_of_below hbW) ?_;clear hK K;simp only [Act.put, sT2, sT1, sT0];refine FT.flow_at hC rfl trivial (fun w4 hw4 K hK => ?_);have hb4 := (upB hbW hw4);refine zAh (by rfl) _ _ (by rfl) wx.heap.size v12 (L.take k) (by rfl) (hr12.ee hw4) (some ⟨bx, 0, none⟩) 1 1 [X] (by rfl) rfl (zD1 (by simpa using hbx.ee hw4)) (zEb _ _) (fun e => by cases e) (by rw [HT1.out]; omega) hb4.size (some 38) (by rfl) ?_;intro w5 v13 hr13 hf13 hs13;have hb5 := hb4.trans (hf13.below (fun k e => ((hr12.ee hw4).lt k e).1) hb4.size);refine hK _ _ (regrown_of_below hb5) ?_;clear hK K;simp only [Act.put, sT2, sT1, sT0];refine FT.flow_at hC rfl trivial (fun w6 hw6 K hK => ?_);have hb6 := (upB hb5 hw6);refine zAh (by rfl) _ _ (by rfl) wx.heap.size v13 (L.take k ++ [X]) (by rfl) (hr13.ee hw6) ad (n - k) (c - k) (L.drop k) (by rfl) HT2.out (hdr.ee hb6) hfl2 hnil (by rw [List.length_append, HT1.out]; simp; omega) hb6.size (some 45) (by rfl) ?_;intro w7 v18 hr18 hf18 hs18;have hb7 := hb6.trans (hf18.below (fun k e => ((hr13.ee hw6).lt k e).1) hb6.size);refine hK _ _ (regrown_of_below hb7) ?_;clear hK K;simp only [Act.put, sT2, sT1, sT0];intro w8 hw8;have hb8 := (upB hb7 hw8);have BD8 := BD.ee hb8;have hw8' := (upB hwr hb8);obtain ⟨hS8, hF8, hG8⟩ := zFn HS.out hw8' ((hr18.ee hw8).base hwr.size) (by rw [List.length_append, List.length_append, HT1.out, HT2.out, List.length_singleton]; omega);obtain ⟨a18, n18, c18, rfl⟩ := hr18.form;obtain ⟨d0, d1, d2, d3⟩ := BD8.f;clear hr12 hr13 hr18 hf13 hs13 hf18 hs18 hbx g_XD;simp only [dP1, dP0];go_wp2;rw [List.append_assoc, List.singleton_append] at hS8;exact ⟨rfl, .tuple #[], by simp [results, Tryz.results50, go_sem], k, _, rfl, HPUT.out, hS8, hF8, hG8⟩
   case y10 =>
    refine FT.flow_at hC rfl trivial (fun w9 hw9 K hK => ?_);go_simp;have hbN : Below wx.heap.size wx (w9.alloc (.cells #[.int .i64 X.A.x, .int .i64 X.A.y, .int .i64 X.B.x, .int .i64 X.B.y, .int .i64 X.K] 77)) := Below.alloc hw9 (Below.size hw9) _;refine hK _ _ (regrown_of_below hbN) ?_;clear hK K;obtain ⟨bx, hbx0⟩ : ∃ bx, w9.heap.size = bx := ⟨_, rfl⟩;have hbx9 : Box (w9.alloc (.cells #[.int .i64 X.A.x, .int .i64 X.A.y, .int .i64 X.B.x, .int .i64 X.B.y, .int .i64 X.K] 77)) bx (cW X) 77 := by rw [← hbx0]; exact Box.new rfl
    rw [hbx0];clear hbx0;refine FT.flow_at hC rfl trivial (fun w1 hw1 K hK => ?_);have hb1 := hbN.trans (Below.mono hw1 hbN.size);have hrM := zFf w1 wx.heap.size hb1.size;go_simp;have hbM := hb1.alloc hb1.size (.cells #[] 77);refine hK _ _ (regrown_of_below hbM) ?_;clear hK K;have hbx1 := (hbx9.ee hw1).old (.cells #[] 77);have hne : ¬ Value.ownBlock (.slice (some ⟨w1.heap.size, 0, none⟩) 0 0) = some bx := fun e => by
     have h1 := (hbx9.ee hw1).lt;have e2 : w1.heap.size = bx := by simpa [Value.ownBlock] using e
     omega
    refine FT.flow_at hC rfl trivial (fun w2 hw2 K hK => ?_);have hb2 := hbM.trans (Below.mono hw2 hbM.size);refine zAh (by rfl) _ _ (by rfl) wx.heap.size _ [] (by rfl) (hrM.ee hw2) _ k c (L.take k) (by rfl) HT1.out ((hrow.ee hb2).take k) hfl (fun e => ⟨by have h1 := (hz e).1; have h2 := HM.out; rw [h1] at h2; simp at h2; omega, (hz e).2⟩) (by simp; omega) (Below.size hb2) (some 35) (by rfl) ?_;intro w3 v12 hr12 hf12 hs12;rw [List.nil_append] at hr12;have hbW := hb2.trans (hf12.below (fun k e => ((hrM.ee hw2).lt k e).1) hb2.size);have hbx := hf12.box (hbx1.ee hw2) hne;refine hK _ _ (regrown_of_below hbW) ?_;clear hK K;simp only [Act.put, sT2, sT1, sT0];refine FT.flow_at hC rfl trivial (fun w4 hw4 K hK => ?_);have hb4 := (upB hbW hw4);refine zAh (by rfl) _ _ (by rfl) wx.heap.size v12 (L.take k) (by rfl) (hr12.ee hw4) (some ⟨bx, 0, none⟩) 1 1 [X] (by rfl) rfl (zD1 (by simpa using hbx.ee hw4)) (zEb _ _) (fun e => by cases e) (by rw [HT1.out]; omega) hb4.size (some 38) (by rfl) ?_;intro w5 v13 hr13 hf13 hs13;have hb5 := hb4.trans (hf13.below (fun k e => ((hr12.ee hw4).lt k e).1) hb4.size);refine hK _ _ (regrown_of_below hb5) ?_;clear hK K;simp only [Act.put, sT2, sT1, sT0];refine FT.flow_at hC rfl trivial (fun w6 hw6 K hK => ?_);have hb6 := (upB hb5 hw6);refine zAh (by rfl) _ _ (by rfl) wx.heap.size v13 (L.take k ++ [X]) (by rfl) (hr13.ee hw6) ad (n - k) (c - k) (L.drop k) (by rfl) HT2.out (hdr.ee hb6) hfl2 hnil (by rw [List.length_append, HT1.out]; simp; omega) hb6.size (some 45) (by rfl) ?_;intro w7 v18 hr18 hf18 hs18;have hb7 := hb6.trans (hf18.below (fun k e => ((hr13.ee hw6).lt k e).1) hb6.size);refine hK _ _ (regrown_of_below hb7) ?_;clear hK K;simp only [Act.put, sT2, sT1, sT0];intro w8 hw8;have hb8 := (upB hb7 hw8);have BD8 := BD.ee hb8;have hw8' := (upB hwr hb8);obtain ⟨hS8, hF8, hG8⟩ := zFn HS.out hw8' ((hr18.ee hw8).base hwr.size) (by rw [List.length_append, List.length_append, HT1.out, HT2.out, List.length_singleton]; omega);obtain ⟨a18, n18, c18, rfl⟩ := hr18.form;obtain ⟨d0, d1, d2, d3⟩ := BD8.f;clear hr12 hr13 hr18 hf13 hs13 hf18 hs18 hbx g_XD;simp only [dP1, dP0];go_wp2;rw [List.append_assoc, List.singleton_append] at hS8;exact ⟨rfl, .tuple #[], by simp [results, Tryz.results50, go_sem], k, _, rfl, HPUT.out, hS8, hF8, hG8⟩
  ·obtain ⟨i, hik⟩ : ∃ i, i + 1 = k := ⟨k - 1, by omega⟩;have hkL : i < L.length := by rw [HM.out]; omega
   have hkn : i < n := by omega
   obtain ⟨aj, A, ea, eA, hA5⟩ := hrow.five (j := i) hkL;have c5 := rcmpW_any L[i] X (HG.out _ (List.getElem_mem hkL)) HXK.out;have HZ : Hid (cmpW L[i] X = cmpW L[i] X) := Lib.hid rfl;generalize hz0 : cmpW L[i] X = z at c5 HZ
   clear HZ;have HZ := Lib.hid hz0;clear hz0;have HY : Hid (L[i] = L[i]) := Lib.hid rfl;generalize hY : L[i] = Y at hA5 c5 HY HZ
   clear HY;have HY := Lib.hid hY;clear hY;obtain ⟨s0, s1, s2, s3, s4⟩ := hA5.cells;have g_XD := J2 BX.cells BD.cells;obtain ⟨d0, d1, d2, d3⟩ := BD.f;have q1 : decide (0 < k) = true := by simp; omega
   have q0 : (0 : Int) < (k : Int) := by omega
   have q2 : IntKind.i64.wrap ((k : Int) - 1) = (i : Int) := by rw [IntKind.wrap_i64]; omega
   have q3 : (i : Int) < (n : Int) := by omega
   have q4 : (0 : Int) ≤ (i : Int) := by omega
   have HIK := Lib.hid hik;clear hik hk0;subst ea;clear hA5;cases ez : decide (0 < z) with
   | true =>
    have HA2 : Hid (∀ (j : Nat) (h : j < L.length), i ≤ j → 0 < cmpW L[j] X) := Lib.hid (fun j h hj => by
     by_cases e : j = i
     ·subst e; rw [HY.out, HZ.out]; simpa using ez
     ·exact HA.out j h (by have := HIK.out; omega))
    clear HA HY HZ;go_wp2_with fail;refine (wp_region_tail 14 (by kernel_rfl) (by kernel_rfl) (C := fun w' => ∃ p : Regrown, w' = grow (redrawn wr p.d) p.os) rgB ?_);simp only [tK1, tK0, dP1, dP0];repeat (first | (refine zA0 (Eq.refl false) ?_; simp only [Act.put, sT2, sT1, sT0]) | (refine rWalk_step (fun K hK => ?_); go_simp; first | (refine hK _ ?_; clear hK K) | (apply Exists.intro; refine ⟨fun _ => ?_, hK _ ?_⟩; (first | with_reducible exact toExt c5 _); clear hK K)))
    refine rWalk_nil ?_;intro wx hb;replace BX := BX.ee hb;replace BD := BD.ee hb;replace hrow := hrow.ee hb;replace hwr := upB hwr hb;clear hb;clear g_XD d0 d1 d2 d3 q1 q2 q3 q4 s0 s1 s2 s3 s4 c5;have HB := Lib.hid BX;have HW := Lib.hid hwr;clear BX hwr BD hrow;go_wp2
    go_roundw
    case rel => exact ⟨i, by omega, by rw [show (i : Int) = (k : Int) - 1 by have := HIK.out; omega], HA2, HW.out, HB.out⟩
    case measure => simp [intOf]; omega
   | false =>
    have HTOP : Hid (∀ h : k - 1 < L.length, 0 < k → ¬ 0 < cmpW L[k - 1] X) := Lib.hid (fun h _ => by
     have e : k - 1 = i := by have := HIK.out; omega
     have h2 : L[k - 1] = L[i] := by simp only [e]
     rw [h2, HY.out, HZ.out]; simpa using ez)
    clear HY HZ;go_wp2_with fail;refine (wp_region_tail 14 (by kernel_rfl) (by kernel_rfl) (C := fun w' => ∃ p : Regrown, w' = grow (redrawn wr p.d) p.os) rgB ?_);simp only [tK1, tK0, dP1, dP0];repeat (first | (refine zA0 (Eq.refl false) ?_; simp only [Act.put, sT2, sT1, sT0]) | (refine rWalk_step (fun K hK => ?_); go_simp; first | (refine hK _ ?_; clear hK K) | (apply Exists.intro; refine ⟨fun _ => ?_, hK _ ?_⟩; (first | with_reducible exact toExt c5 _); clear hK K)))
    refine rWalk_nil ?_;intro wx hb;replace BX := BX.ee hb;replace BD := BD.ee hb;replace hrow := hrow.ee hb;replace hwr := upB hwr hb;clear hb;clear g_XD d0 d1 d2 d3 q0 q1 q2 q3 q4 s0 s1 s2 s3 s4 c5;have HPUT : Hid (PutAt L X k) := Lib.hid ⟨by rw [HM.out]; exact hk, HA.out, fun h h0 => by have := HTOP.out h h0; omega⟩;obtain ⟨ad, had, hdr, hfl2, hnil⟩ := zH1 hrow HM.out hnc hfl hk hz;have HAD := Lib.hid had;have HT1 := Lib.hid (show (L.take k).length = k by rw [List.length_take, HM.out]; omega);have HT2 := Lib.hid (show (L.drop k).length = n - k by rw [List.length_drop, HM.out]);clear had HA;have g_XD := J2 BX.cells BD.cells;obtain ⟨d0, d1, d2, d3⟩ := BD.f;have z2 : k ≤ c := by omega
    go_wp2_with fail;clear d0 d1 d2 d3;have hcB : ∀ w', (∃ p : Regrown, w' = grow (redrawn wx p.d) p.os) → Below wx.heap.size wx w' := fun w' h => by obtain ⟨p, rfl⟩ := h; exact below_regrown _ _ _
    refine FT.wp_region_flow 19 (.run 0 (.run 2 (.run 3 (.run 4 (.run 5 (.run 6 (.run 7 (.run 9 (.run 12 (.run 13 (.run 14 (.run 15 (.run 16 (.run 17 (.alt 1 (.alt 8 (.alt 10 (.alt 11 (.alt 18 (.tail) .stop) .stop) .stop) (.alt 10 (.alt 8 (.alt 11 (.alt 18 (.tail) .stop) .stop) .stop) .stop)) (.alt 10 (.alt 1 (.alt 8 (.alt 11 (.alt 18 (.tail) .stop) .stop) .stop) .stop) .stop)))))))))))))))) rfl (by kernel_rfl) (fun _ x _ _ _ h => by cases x <;> exact h) (C := fun w' => ∃ p : Regrown, w' = grow (redrawn wx p.d) p.os) rgB hcB ?_;have hC : ∀ x y, Ext x y → (∃ p : Regrown, x = grow (redrawn wx p.d) p.os) → (∃ p : Regrown, y = grow (redrawn wx p.d) p.os) := fun x y h1 h2 => regrown_of_below ((hcB x h2).trans (h1.mono (hcB x h2).size))
    iterate 14 (refine FT.flow_run rfl (fun K hK => ?_); go_simp; first | (refine hK _ ?_; clear hK K) | (apply Exists.intro; refine ⟨fun _ => ?_, hK _ ?_⟩; rotate_left; clear hK K))
    first | rw [HAD.out] | (have hq := HAD.out; simp only [Option.map_some] at hq; rw [hq]; clear hq)
    refine FT.flow_at hC rfl ?y10 (fun w1 hw1 K hK => ?y1)
    case y1 =>
     go_simp;have hbM : Below wx.heap.size wx (w1.alloc (.cells #[] 77)) := Below.alloc hw1 (Below.size hw1) _;have hrM := zFf w1 wx.heap.size (Below.size hw1);refine hK _ _ (regrown_of_below hbM) ?_;clear hK K;refine FT.flow_at hC rfl ?z10 (fun w2 hw2 K hK => ?z8)
     case z8 =>
      have hb2 := hbM.trans (Below.mono hw2 hbM.size);refine zAh (by rfl) _ _ (by rfl) wx.heap.size _ [] (by rfl) (hrM.ee hw2) _ k c (L.take k) (by rfl) HT1.out ((hrow.ee hb2).take k) hfl (fun e => ⟨by have h1 := (hz e).1; have h2 := HM.out; rw [h1] at h2; simp at h2; omega, (hz e).2⟩) (by simp; omega) (Below.size hb2) (some 35) (by rfl) ?_;intro w3 v12 hr12 hf12 hs12;rw [List.nil_append] at hr12;have hb3 := hb2.trans (hf12.below (fun k e => ((hrM.ee hw2).lt k e).1) hb2.size);refine hK _ _ (regrown_of_below hb3) ?_;clear hK K;simp only [Act.put, sT2, sT1, sT0];refine FT.flow_at hC rfl trivial (fun w9 hw9 K hK => ?_);go_simp;have hb9 := (upB hb3 hw9);have hbW := hb9.alloc hb9.size (.cells #[.int .i64 X.A.x, .int .i64 X.A.y, .int .i64 X.B.x, .int .i64 X.B.y, .int .i64 X.K] 77);refine hK _ _ (regrown_of_below hbW) ?_;clear hK K;obtain ⟨bx, hbx0⟩ : ∃ bx, w9.heap.size = bx := ⟨_, rfl⟩;have hbx : Box (w9.alloc (.cells #[.int .i64 X.A.x, .int .i64 X.A.y, .int .i64 X.B.x, .int .i64 X.B.y, .int .i64 X.K] 77)) bx (cW X) 77 := by rw [← hbx0]; exact Box.new rfl
      replace hr12 := (hr12.ee hw9).alloc (.cells #[.int .i64 X.A.x, .int .i64 X.A.y, .int .i64 X.B.x, .int .i64 X.B.y, .int .i64 X.K] 77);rw [hbx0];clear hbx0;refine FT.flow_at hC rfl trivial (fun w4 hw4 K hK => ?_);have hb4 := (upB hbW hw4);refine zAh (by rfl) _ _ (by rfl) wx.heap.size v12 (L.take k) (by rfl) (hr12.ee hw4) (some ⟨bx, 0, none⟩) 1 1 [X] (by rfl) rfl (zD1 (by simpa using hbx.ee hw4)) (zEb _ _) (fun e => by cases e) (by rw [HT1.out]; omega) hb4.size (some 38) (by rfl) ?_;intro w5 v13 hr13 hf13 hs13;have hb5 := hb4.trans (hf13.below (fun k e => ((hr12.ee hw4).lt k e).1) hb4.size);refine hK _ _ (regrown_of_below hb5) ?_;clear hK K;simp only [Act.put, sT2, sT1, sT0];refine FT.flow_at hC rfl trivial (fun w6 hw6 K hK => ?_);have hb6 := (upB hb5 hw6);refine zAh (by rfl) _ _ (by rfl) wx.heap.size v13 (L.take k ++ [X]) (by rfl) (hr13.ee hw6) ad (n - k) (c - k) (L.drop k) (by rfl) HT2.out (hdr.ee hb6) hfl2 hnil (by rw [List.length_append, HT1.out]; simp; omega) hb6.size (some 45) (by rfl) ?_;intro w7 v18 hr18 hf18 hs18;have hb7 := hb6.trans (hf18.below (fun k e => ((hr13.ee hw6).lt k e).1) hb6.size);refine hK _ _ (regrown_of_below hb7) ?_;clear hK K;simp only [Act.put, sT2, sT1, sT0];intro w8 hw8;have hb8 := (upB hb7 hw8);have BD8 := BD.ee hb8;have hw8' := (upB hwr hb8);obtain ⟨hS8, hF8, hG8⟩ := zFn HS.out hw8' ((hr18.ee hw8).base hwr.size) (by rw [List.length_append, List.length_append, HT1.out, HT2.out, List.length_singleton]; omega);obtain ⟨a18, n18, c18, rfl⟩ := hr18.form;obtain ⟨d0, d1, d2, d3⟩ := BD8.f;clear hr12 hr13 hr18 hf13 hs13 hf18 hs18 hbx g_XD;simp only [dP1, dP0];go_wp2;rw [List.append_assoc, List.singleton_append] at hS8;exact ⟨rfl, .tuple #[], by simp [results, Tryz.results50, go_sem], k, _, rfl, HPUT.out, hS8, hF8, hG8⟩
     case z10 =>
      refine FT.flow_at hC rfl trivial (fun w9 hw9 K hK => ?_);go_simp;have hb9 := hbM.trans (Below.mono hw9 hbM.size);have hbN := hb9.alloc hb9.size (.cells #[.int .i64 X.A.x, .int .i64 X.A.y, .int .i64 X.B.x, .int .i64 X.B.y, .int .i64 X.K] 77);refine hK _ _ (regrown_of_below hbN) ?_;clear hK K;have hrM9 := (hrM.ee hw9).alloc (.cells #[.int .i64 X.A.x, .int .i64 X.A.y, .int .i64 X.B.x, .int .i64 X.B.y, .int .i64 X.K] 77);obtain ⟨bx, hbx0⟩ : ∃ bx, w9.heap.size = bx := ⟨_, rfl⟩;have hbx9 : Box (w9.alloc (.cells #[.int .i64 X.A.x, .int .i64 X.A.y, .int .i64 X.B.x, .int .i64 X.B.y, .int .i64 X.K] 77)) bx (cW X) 77 := by rw [← hbx0]; exact Box.new rfl
      have hne : ¬ Value.ownBlock (.slice (some ⟨w1.heap.size, 0, none⟩) 0 0) = some bx := fun e => by
       have h1 := Below.size hw9;have e2 : w1.heap.size = bx := by simpa [Value.ownBlock] using e
       simp at h1;omega
      rw [hbx0];clear hbx0;refine FT.flow_at hC rfl trivial (fun w2 hw2 K hK => ?_);have hb2 := hbN.trans (Below.mono hw2 hbN.size);refine zAh (by rfl) _ _ (by rfl) wx.heap.size _ [] (by rfl) (hrM9.ee hw2) _ k c (L.take k) (by rfl) HT1.out ((hrow.ee hb2).take k) hfl (fun e => ⟨by have h1 := (hz e).1; have h2 := HM.out; rw [h1] at h2; simp at h2; omega, (hz e).2⟩) (by simp; omega) (Below.size hb2) (some 35) (by rfl) ?_;intro w3 v12 hr12 hf12 hs12;rw [List.nil_append] at hr12;have hbW := hb2.trans (hf12.below (fun k e => ((hrM9.ee hw2).lt k e).1) hb2.size);have hbx := hf12.box (hbx9.ee hw2) hne;refine hK _ _ (regrown_of_below hbW) ?_;clear hK K;simp only [Act.put, sT2, sT1, sT0];refine FT.flow_at hC rfl trivial (fun w4 hw4 K hK => ?_);have hb4 := (upB hbW hw4);refine zAh (by rfl) _ _ (by rfl) wx.heap.size v12 (L.take k) (by rfl) (hr12.ee hw4) (some ⟨bx, 0, none⟩) 1 1 [X] (by rfl) rfl (zD1 (by simpa using hbx.ee hw4)) (zEb _ _) (fun e => by cases e) (by rw [HT1.out]; omega) hb4.size (some 38) (by rfl) ?_;intro w5 v13 hr13 hf13 hs13;have hb5 := hb4.trans (hf13.below (fun k e => ((hr12.ee hw4).lt k e).1) hb4.size);refine hK _ _ (regrown_of_below hb5) ?_;clear hK K;simp only [Act.put, sT2, sT1, sT0];refine FT.flow_at hC rfl trivial (fun w6 hw6 K hK => ?_);have hb6 := (upB hb5 hw6);refine zAh (by rfl) _ _ (by rfl) wx.heap.size v13 (L.take k ++ [X]) (by rfl) (hr13.ee hw6) ad (n - k) (c - k) (L.drop k) (by rfl) HT2.out (hdr.ee hb6) hfl2 hnil (by rw [List.length_append, HT1.out]; simp; omega) hb6.size (some 45) (by rfl) ?_;intro w7 v18 hr18 hf18 hs18;have hb7 := hb6.trans (hf18.below (fun k e => ((hr13.ee hw6).lt k e).1) hb6.size);refine hK _ _ (regrown_of_below hb7) ?_;clear hK K;simp only [Act.put, sT2, sT1, sT0];intro w8 hw8;have hb8 := (upB hb7 hw8);have BD8 := BD.ee hb8;have hw8' := (upB hwr hb8);obtain ⟨hS8, hF8, hG8⟩ := zFn HS.out hw8' ((hr18.ee hw8).base hwr.size) (by rw [List.length_append, List.length_append, HT1.out, HT2.out, List.length_singleton]; omega);obtain ⟨a18, n18, c18, rfl⟩ := hr18.form;obtain ⟨d0, d1, d2, d3⟩ := BD8.f;clear hr12 hr13 hr18 hf13 hs13 hf18 hs18 hbx g_XD;simp only [dP1, dP0];go_wp2;rw [List.append_assoc, List.singleton_append] at hS8;exact ⟨rfl, .tuple #[], by simp [results, Tryz.results50, go_sem], k, _, rfl, HPUT.out, hS8, hF8, hG8⟩
    case y10 =>
     refine FT.flow_at hC rfl trivial (fun w9 hw9 K hK => ?_);go_simp;have hbN : Below wx.heap.size wx (w9.alloc (.cells #[.int .i64 X.A.x, .int .i64 X.A.y, .int .i64 X.B.x, .int .i64 X.B.y, .int .i64 X.K] 77)) := Below.alloc hw9 (Below.size hw9) _;refine hK _ _ (regrown_of_below hbN) ?_;clear hK K;obtain ⟨bx, hbx0⟩ : ∃ bx, w9.heap.size = bx := ⟨_, rfl⟩;have hbx9 : Box (w9.alloc (.cells #[.int .i64 X.A.x, .int .i64 X.A.y, .int .i64 X.B.x, .int .i64 X.B.y, .int .i64 X.K] 77)) bx (cW X) 77 := by rw [← hbx0]; exact Box.new rfl
     rw [hbx0];clear hbx0;refine FT.flow_at hC rfl trivial (fun w1 hw1 K hK => ?_);have hb1 := hbN.trans (Below.mono hw1 hbN.size);have hrM := zFf w1 wx.heap.size hb1.size;go_simp;have hbM := hb1.alloc hb1.size (.cells #[] 77);refine hK _ _ (regrown_of_below hbM) ?_;clear hK K;have hbx1 := (hbx9.ee hw1).old (.cells #[] 77);have hne : ¬ Value.ownBlock (.slice (some ⟨w1.heap.size, 0, none⟩) 0 0) = some bx := fun e => by
      have h1 := (hbx9.ee hw1).lt;have e2 : w1.heap.size = bx := by simpa [Value.ownBlock] using e
      omega
     refine FT.flow_at hC rfl trivial (fun w2 hw2 K hK => ?_);have hb2 := hbM.trans (Below.mono hw2 hbM.size);refine zAh (by rfl) _ _ (by rfl) wx.heap.size _ [] (by rfl) (hrM.ee hw2) _ k c (L.take k) (by rfl) HT1.out ((hrow.ee hb2).take k) hfl (fun e => ⟨by have h1 := (hz e).1; have h2 := HM.out; rw [h1] at h2; simp at h2; omega, (hz e).2⟩) (by simp; omega) (Below.size hb2) (some 35) (by rfl) ?_;intro w3 v12 hr12 hf12 hs12;rw [List.nil_append] at hr12;have hbW := hb2.trans (hf12.below (fun k e => ((hrM.ee hw2).lt k e).1) hb2.size);have hbx := hf12.box (hbx1.ee hw2) hne;refine hK _ _ (regrown_of_below hbW) ?_;clear hK K;simp only [Act.put, sT2, sT1, sT0];refine FT.flow_at hC rfl trivial (fun w4 hw4 K hK => ?_);have hb4 := (upB hbW hw4);refine zAh (by rfl) _ _ (by rfl) wx.heap.size v12 (L.take k) (by rfl) (hr12.ee hw4) (some ⟨bx, 0, none⟩) 1 1 [X] (by rfl) rfl (zD1 (by simpa using hbx.ee hw4)) (zEb _ _) (fun e => by cases e) (by rw [HT1.out]; omega) hb4.size (some 38) (by rfl) ?_;intro w5 v13 hr13 hf13 hs13;have hb5 := hb4.trans (hf13.below (fun k e => ((hr12.ee hw4).lt k e).1) hb4.size);refine hK _ _ (regrown_of_below hb5) ?_;clear hK K;simp only [Act.put, sT2, sT1, sT0];refine FT.flow_at hC rfl trivial (fun w6 hw6 K hK => ?_);have hb6 := (upB hb5 hw6);refine zAh (by rfl) _ _ (by rfl) wx.heap.size v13 (L.take k ++ [X]) (by rfl) (hr13.ee hw6) ad (n - k) (c - k) (L.drop k) (by rfl) HT2.out (hdr.ee hb6) hfl2 hnil (by rw [List.length_append, HT1.out]; simp; omega) hb6.size (some 45) (by rfl) ?_;intro w7 v18 hr18 hf18 hs18;have hb7 := hb6.trans (hf18.below (fun k e => ((hr13.ee hw6).lt k e).1) hb6.size);refine hK _ _ (regrown_of_below hb7) ?_;clear hK K;simp only [Act.put, sT2, sT1, sT0];intro w8 hw8;have hb8 := (upB hb7 hw8);have BD8 := BD.ee hb8;have hw8' := (upB hwr hb8);obtain ⟨hS8, hF8, hG8⟩ := zFn HS.out hw8' ((hr18.ee hw8).base hwr.size) (by rw [List.length_append, List.length_append, HT1.out, HT2.out, List.length_singleton]; omega);obtain ⟨a18, n18, c18, rfl⟩ := hr18.form;obtain ⟨d0, d1, d2, d3⟩ := BD8.f;clear hr12 hr13 hr18 hf13 hs13 hf18 hs18 hbx g_XD;simp only [dP1, dP0];go_wp2;rw [List.append_assoc, List.singleton_append] at hS8;exact ⟨rfl, .tuple #[], by simp [results, Tryz.results50, go_sem], k, _, rfl, HPUT.out, hS8, hF8, hG8⟩
end Go.Proofs.YtjkfakaehjmnbaaGreat
namespace Go.Proofs.YtjkfakaehjmnbaaGreat
open Go.RowKit Go.Sort
attribute [local go_sem] rOper rAt rUpon cell_set sg_i64 sg_u64 alloc_cell alloc_frozen
attribute [local go_sem 10000] pt_eql pt_neq tri_eql
attribute [local irreducible] rWalk
def badsD (E : Es) (W : List Wl) (D : Es) : List Wl := D.filterMap fun e => if decide (cmpP e.1.1 e.1.2 < 0) && badD E W e.1.1 e.1.2 then some ⟨e.1.1, e.1.2, 1⟩ else none
theorem zDk (E : Es) (W : List Wl) (D F : Es) : badsD E W (D ++ F) = badsD E W D ++ badsD E W F := by unfold badsD; rw [List.filterMap_append]
theorem zH6 (E : Es) (W : List Wl) (u x : Pt) (T : Tri3) : badsD E W [((u, x), T)] = if (decide (cmpP u x < 0) && badD E W u x) = true then [⟨u, x, 1⟩] else [] := by
 unfold badsD;simp only [List.filterMap_cons, List.filterMap_nil];generalize (decide (cmpP u x < 0) && badD E W u x) = c
 cases c <;> rfl
theorem zJ0 (E : Es) (W : List Wl) (D : Es) : (badsD E W D).length ≤ D.length := List.length_filterMap_le _ _
theorem badsD_perm (E : Es) (W : List Wl) {D F : Es} (h : D.Perm F) : (badsD E W D).Perm (badsD E W F) := h.filterMap _
theorem badsD_kind {E : Es} {W : List Wl} {D : Es} {x : Wl} (h : x ∈ badsD E W D) : x.K = 1 := by
 unfold badsD at h;rw [List.mem_filterMap] at h;obtain ⟨e, _, he⟩ := h;split at he
 ·simp only [Option.some.injEq] at he; rw [← he]
 ·cases he
theorem zE6 {L : List Wl} {X : Wl} (k : Nat) : (L.take k ++ X :: L.drop k).Perm (X :: L) := by
 refine (List.perm_middle).trans ?_;rw [List.take_append_drop]
theorem Frm.grown {w w' : World} {b : Nat} (h : Frm w w' (· = b)) : w.grownBy w' (some b) := ⟨h.os, h.tape, h.output, h.size, fun i hi hn => h.block i hi (fun e => hn (by rw [e]))⟩
def BadPost (E : Es) (W : List Wl) (w : World) (e : Ending) (w' : World) : Prop := ∃ a c L, e = .returned (.slice a L.length c) ∧ L.Perm (badsD E W E) ∧ RowAt cW 5 w' a L ∧ Below w.heap.size w w'
theorem rBad_any (mb b db : Nat) (a0 : Option Addr) (c n : Nat) (E : Es) (W : List Wl) (hE : E.length ≤ 100000) (hok : ∀ e ∈ E, okW e.1) (w : World) (Bm : Box w mb [.map (some b)] 54) (Hm : HoldsMap eW eT okW w b E) (Dw : DocRd w db a0 c n W) :
    Calls Tryz.prog 29 #[.pointer (some ⟨mb, 0, none⟩), .pointer (some ⟨db, 0, none⟩)] w (BadPost E W w) := by
 have cB := fun p q hk w B H D => zJh mb b db a0 c n E W p q hk w B H D;have Fm := Bm.f
 go_enter Tryz.func29, Tryz.ntmps29
 go_wp2_with (at_range; refine zB7 _ rfl _ rfl kvR rfl (Hm.alloc _) ?_)
 intro w0 HR0 hw0 hs0;have So0 : DocAt w0 w.heap.size (.slice none 0 0) [] := ⟨(Box.new rfl).ext hw0 (by simp), World.ownsRow_nil _ _ _ _, by simp [Value.ownBlock], by simp⟩;replace hw0 : Below w.heap.size w w0 := ((Below.refl w.heap.size w).alloc (Nat.le_refl _) _).trans (hw0.mono (by simp));clear Fm;go_wp2
 go_loopw [] (fun wr => ∃ (D R : Es) (v : Value) (L : List Wl), Hid ((D ++ R).Perm E) ∧ Hid (L.Perm (badsD E W D)) ∧ DocAt wr w.heap.size v L ∧ Ranging eW eT okW wr b (w.heap.size + 1) E R ∧ Below w.heap.size w wr) (fun wr => wr.rangeLeft b (w.heap.size + 1))
 case atStart => exact ⟨[], E, _, [], Lib.hid (by simp), Lib.hid (.refl _), So0, by simpa using HR0, hw0⟩
 case round =>
  clear HR0 hw0 So0;obtain ⟨D, R, v, L, hD, hL, So, HR, hw⟩ := hrel;go_wp2_with (at_next; refine zBe _ rfl _ rfl rfl HR ?_ ?_)
  ·intro hR;subst hR;have hp0 := Lib.hid (show L.Perm (badsD E W E) from hL.out.trans (badsD_perm E W (by simpa using hD.out)));obtain ⟨a, c', rfl, Dr, _⟩ := So.rd;have Fo := Dr.box.f;go_wp2
   go_ret
   exact ⟨a, c', L, rfl, hp0.out, Dr.row, hw⟩
  ·intro u x T R' w1 hperm HR1 hg1 hs1 hen;have hD2 := Lib.hid (show ((D ++ [((u, x), T)]) ++ R').Perm E by have := (hperm.append_left D).symm.trans hD.out; simpa using this);have hk : okW (u, x) := hok ((u, x), T) (hD2.out.mem_iff.1 (by simp));have So1 : DocAt w1 w.heap.size v L := ⟨So.box.grown1 hg1, So.row.kept hg1 (.inr (fun e => zAz So.row HR e.symm)), So.ne, So.le⟩;have hw1 := hw.grown hg1 hw.size (fun k hk => by cases hk; omega);have HL := Lib.hid (show w1.rangeLeft b (w.heap.size + 1) < wr.rangeLeft b (w.heap.size + 1) by rw [zAg HR1, zAg HR, hperm.length_eq]; simp);have hen2 : (Instr.entry (.pointer (some ⟨w.heap.size + 1, 0, none⟩))).run Tryz.prog w1 = .ok (.tuple #[.agg #[.int .i64 u.x, .int .i64 u.y, .int .i64 x.x, .int .i64 x.y], .agg #[.int .i64 T.A.x, .int .i64 T.A.y, .int .i64 T.B.x, .int .i64 T.B.y, .int .i64 T.C.x, .int .i64 T.C.y]]) w1 := hen;have hle : L.length < 1000000 := by have := hL.out.length_eq; have := zJ0 E W D; have := hD2.out.length_eq; simp at *; omega
   have hgk : ∀ X ∈ L, 0 ≤ X.K ∧ X.K ≤ 2 := fun X hX => by have := badsD_kind (hL.out.mem_iff.1 hX); omega
   have HB := Lib.hid hw1.size;clear So HR hg1 hs1 hen hperm hw;go_wp2_with fail;refine zA1 fun W2 hW => ?_;have Be : Box W2 w1.heap.size [.int .i64 u.x, .int .i64 u.y, .int .i64 x.x, .int .i64 x.y] 101 := by rw [hW]; exact Box.new rfl
   have hw2 : Below w1.heap.size w1 W2 := by rw [hW]; go_grown
   clear hW;have So2 := So1.ee hw2;have HR2 := HR1.ee hw2;have hwx := (upB hw1 hw2);have HL2 := Lib.hid (show W2.rangeLeft b (w.heap.size + 1) < wr.rangeLeft b (w.heap.size + 1) by rw [zAg HR2, ← zAg HR1]; exact HL.out);clear So1 HR1 hw1 hw2 HL HB;refine (zAd u x _).mono ?_;rintro e w3 ⟨rfl, hb⟩;replace Be := Be.ee hb;replace So2 := So2.ee hb;have HR3 := HR2.ee hb;replace hwx := upB hwx hb;have HL3 := Lib.hid (show w3.rangeLeft b (w.heap.size + 1) < wr.rangeLeft b (w.heap.size + 1) by rw [zAg HR3, ← zAg HR2]; exact HL2.out);have HF := Lib.hid (fun (h1 : decide (cmpP u x < 0) = false) => show L.Perm (badsD E W (D ++ [((u, x), T)])) by
    rw [zDk, zH6, h1, Bool.false_and, if_neg (by decide), List.append_nil]; exact hL.out)
   have HG := Lib.hid (fun (h1 : badD E W u x = false) => show L.Perm (badsD E W (D ++ [((u, x), T)])) by
    rw [zDk, zH6, h1, Bool.and_false, if_neg (by decide), List.append_nil]; exact hL.out)
   have HH := Lib.hid (fun (h1 : decide (cmpP u x < 0) = true) (h2 : badD E W u x = true) => show ∀ k, (L.take k ++ (⟨u, x, 1⟩ : Wl) :: L.drop k).Perm (badsD E W (D ++ [((u, x), T)])) from fun k => by
    rw [zDk, zH6, h1, h2, Bool.true_and, if_pos rfl];exact (zE6 k).trans ((hL.out.cons _).trans (List.perm_append_comm (l₁ := [(⟨u, x, 1⟩ : Wl)]))))
   have hl6 : L.length + 1 ≤ 1000000 := hle;clear hb HR2 HL2 hL;have Fe := Be.f;cases h1 : decide (cmpP u x < 0) with
   | false =>
    have HQ := Lib.hid (HF.out h1);clear HF HG HH;go_wp2
    go_roundw
    case rel => exact ⟨D ++ [((u, x), T)], R', v, L, hD2, HQ, So2, HR3, hwx⟩
    case measure => exact HL3.out
   | true =>
    have HH := Lib.hid (HH.out h1);clear HF;go_wp2_with fail;refine (cB u x hk _ (Bm.ee hwx) HR3.holds (Dw.ee hwx)).mono ?_;rintro e w4 ⟨rfl, hb⟩;clear Fe;replace Be := Be.ee hb;have So4 := So2.ee hb;have HR4 := HR3.ee hb;have hw4 := (upB hwx hb);have HL4 := Lib.hid (show w4.rangeLeft b (w.heap.size + 1) < wr.rangeLeft b (w.heap.size + 1) by rw [zAg HR4, ← zAg HR3]; exact HL3.out);clear hb So2 HR3 hwx HL3;have Fe := Be.f;cases h2 : badD E W u x with
    | false =>
     have HQ := Lib.hid (HG.out h2);clear HG HH;go_wp2
     go_roundw
     case rel => exact ⟨D ++ [((u, x), T)], R', v, L, hD2, HQ, So4, HR4, hw4⟩
     case measure => exact HL4.out
    | true =>
     have HQ := Lib.hid (HH.out h2);clear HG HH h2;have cp := zDf w.heap.size v L ⟨u, x, 1⟩ hle hgk ⟨by show (0 : Int) ≤ 1; decide, by show (1 : Int) ≤ 2; decide⟩ w4 So4;go_wp2_with fail;refine cp.mono ?_;rintro e w5 ⟨k, v', rfl, hk5, So5, hf5, hv5⟩;have hg5 := hf5.grown;have HR5 := HR4.kept hg5 (fun e => So4.box.ne_map HR4.holds (Option.some.inj e).symm) (by simp);have hw5 := hf5.below (n := w.heap.size) (fun k hk => Nat.le_of_eq hk.symm) hw4.size;have HL5 := Lib.hid (show w5.rangeLeft b (w.heap.size + 1) < wr.rangeLeft b (w.heap.size + 1) by rw [zAg HR5, ← zAg HR4]; exact HL4.out);have HP := Lib.hid (HQ.out k);clear Fe cp HQ hf5 hg5;go_wp2
     go_roundw
     case rel => exact ⟨D ++ [((u, x), T)], R', v', _, hD2, HP, So5, HR5, hw4.trans hw5⟩
     case measure => exact HL5.out
attribute [local go_sem] rmap_nil
theorem zEu (mb b : Nat) (E : Es) (T : Tri3) (hk : okT T) (w : World) (Bm : Box w mb [.map (some b)] 54) (Hm : HoldsMap eW eT okW w b E) :
    Calls Tryz.prog 60 #[.pointer (some ⟨mb, 0, none⟩), .agg #[.int .i64 T.A.x, .int .i64 T.A.y, .int .i64 T.B.x, .int .i64 T.B.y, .int .i64 T.C.x, .int .i64 T.C.y]] w fun e w' => e = .returned (.tuple #[]) ∧ w.grownBy w' (some b) ∧ HoldsMap eW eT okW w' b (takeT E T) := by
 have ce := zCs T
 go_enter Tryz.func60, Tryz.ntmps60
 go_wp2_with fail;refine zA1 fun W1 hW => ?_;obtain ⟨Bt, hw⟩ := N1 hW;clear hW;refine (ce _).mono ?_;rintro e w2 ⟨rfl, hb⟩;obtain ⟨Bt, hw, Ft⟩ := X1 Bt hw hb;clear hb;go_wp2_with fail;refine zA2 fun W3 hW => ?_;obtain ⟨bke, hbe⟩ : ∃ b, w2.heap.size = b := ⟨_, rfl⟩;rw [hbe];obtain ⟨lte, fe, Be, Bt, hw⟩ := M1 hW hbe Bt hw;clear hW hbe;have BM : Box W3 (mb) [.map (some b)] 54 := Bm.ee hw;refine wp_loop_rounds 5 ?_;have HF := Hm.ee hw;have hg : w.grownBy W3 (some b) := zA7 hw _;clear hw;try rw [rounds_succ]
 have Ft := Bt.f;have Fe := Be.f;have FM := BM.f;go_wp2_with fail;have hw : Below W3.heap.size W3 W3 := Below.refl _ _;have g_teM := J3 Bt.cells Be.cells BM.cells;refine wrt 7 (by kernel_rfl) (by kernel_rfl) ?_;simp only [tK1, tK0, dP1, dP0];repeat (first | (refine zA0 (Eq.refl false) ?_; simp only [Act.put, sT2, sT1, sT0]) | (refine rWalk_step (fun K hK => ?_); go_simp; refine hK _ ?_; clear hK K))
 refine rWalk_nil ?_;intro w4 hb;clear g_teM;clear Ft Fe FM;obtain ⟨Bt, Be, BM, hw, -⟩ := X3 Bt Be BM hw hb;replace HF := HF.ee hw;replace hg := zAb hg hw;clear hw;refine zBt _ rfl _ _ rfl kvR rfl HF (T.A, T.B) rfl (okT_w hk).1 ?_;intro c0 HG hh hs;replace Bt := Bt.turn HF hh;replace Be := Be.turn HF hh;replace BM := BM.turn HF hh;replace hg := zA9 hg hh;clear HF hh hs;have HF := HG;clear HG;have Ft := Bt.f;have Fe := Be.f;have FM := BM.f;go_wp2_with fail;clear Ft Fe FM;try rw [rounds_succ]
 have Ft := Bt.f;have Fe := Be.f;have FM := BM.f;go_wp2_with fail;have hw : Below c0.heap.size c0 c0 := Below.refl _ _;have g_teM := J3 Bt.cells Be.cells BM.cells;refine wrt 7 (by kernel_rfl) (by kernel_rfl) ?_;simp only [tK1, tK0, dP1, dP0];repeat (first | (refine zA0 (Eq.refl false) ?_; simp only [Act.put, sT2, sT1, sT0]) | (refine rWalk_step (fun K hK => ?_); go_simp; refine hK _ ?_; clear hK K))
 refine rWalk_nil ?_;intro w5 hb;clear g_teM;clear Ft Fe FM;obtain ⟨Bt, Be, BM, hw, -⟩ := X3 Bt Be BM hw hb;replace HF := HF.ee hw;replace hg := zAb hg hw;clear hw;refine zBt _ rfl _ _ rfl kvR rfl HF (T.B, T.C) rfl (okT_w hk).2.1 ?_;intro c1 HG hh hs;replace Bt := Bt.turn HF hh;replace Be := Be.turn HF hh;replace BM := BM.turn HF hh;replace hg := zA9 hg hh;clear HF hh hs;have HF := HG;clear HG;have Ft := Bt.f;have Fe := Be.f;have FM := BM.f;go_wp2_with fail;clear Ft Fe FM;try rw [rounds_succ]
 have Ft := Bt.f;have Fe := Be.f;have FM := BM.f;go_wp2_with fail;have hw : Below c1.heap.size c1 c1 := Below.refl _ _;have g_teM := J3 Bt.cells Be.cells BM.cells;refine wrt 7 (by kernel_rfl) (by kernel_rfl) ?_;simp only [tK1, tK0, dP1, dP0];repeat (first | (refine zA0 (Eq.refl false) ?_; simp only [Act.put, sT2, sT1, sT0]) | (refine rWalk_step (fun K hK => ?_); go_simp; refine hK _ ?_; clear hK K))
 refine rWalk_nil ?_;intro w6 hb;clear g_teM;clear Ft Fe FM;obtain ⟨Bt, Be, BM, hw, -⟩ := X3 Bt Be BM hw hb;replace HF := HF.ee hw;replace hg := zAb hg hw;clear hw;refine zBt _ rfl _ _ rfl kvR rfl HF (T.C, T.A) rfl (okT_w hk).2.2 ?_;intro c2 HG hh hs;replace Bt := Bt.turn HF hh;replace Be := Be.turn HF hh;replace BM := BM.turn HF hh;replace hg := zA9 hg hh;clear HF hh hs;have HF := HG;clear HG;have Ft := Bt.f;have Fe := Be.f;have FM := BM.f;go_wp2_with fail;clear Ft Fe FM;try rw [rounds_succ]
 have Ft := Bt.f;have Fe := Be.f;have FM := BM.f;go_wp2;refine bodyPost_end (results_none rfl _ _ _) rfl ⟨rfl, hg, HF⟩
end Go.Proofs.YtjkfakaehjmnbaaGreat
namespace Go.Proofs.YtjkfakaehjmnbaaGreat
open Go.RowKit Go.Sort
attribute [local go_sem] rOper rAt rUpon cell_set sg_i64 sg_u64 alloc_cell alloc_frozen
attribute [local go_sem 10000] pt_eql pt_neq tri_eql
attribute [local irreducible] rWalk
theorem zJf (mb b : Nat) (E : Es) (p q : Pt) (hk : okW (p, q)) (S R U V : Tri3) (C D : Pt) (h0 : getE E (p, q) = some S) (h1 : getE E (q, p) = some R) (hC : apx S p q = C) (hD : apx R p q = D) (o1 : decide (ori p D C ≤ 0) = false) (o2 : decide (ori D q C ≤ 0) = false) (hU : mk p D C = U) (hV : mk D q C = V) (he : getE E (D, C) = none) (hf : getE E (C, D) = none) (hc : okW (C, D)) (hS : okT S) (hR : okT R) (hu : okT U) (hv : okT V) (f1 : freeE (takeT (takeT E S) R) U = true) (f2 : freeE (putT (takeT (takeT E S) R) U) V = true) (w : World) (Bm : Box w mb [.map (some b)] 54) (Hm : HoldsMap eW eT okW w b E) :
    Calls Tryz.prog 18 #[.pointer (some ⟨mb, 0, none⟩), .agg #[.int .i64 p.x, .int .i64 p.y], .agg #[.int .i64 q.x, .int .i64 q.y]] w fun e w' => e = .returned (.int .i64 0) ∧ w.grownBy w' (some b) ∧ HoldsMap eW eT okW w' b (putT (putT (takeT (takeT E S) R) U) V) := by
 have cl := zAe mb b E p q hk;have cr := zAe mb b E q p ⟨hk.2, hk.1⟩;rw [zAn h0] at cl;rw [zAn h1] at cr;clear h0 h1;have ca := zC3 S p q;have cb := zC3 R p q;have c1 := zA5 p D C;have c2 := zA5 D q C;rw [hC] at ca;rw [hD] at cb;have cu := zB9 p D C;have cv := zB9 D q C;rw [hU] at cu;rw [hV] at cv;have ce := zAe mb b E D C ⟨hc.2, hc.1⟩;have cf := zAe mb b E C D hc;rw [zBr he] at ce;rw [zBr hf] at cf;have t1 := zEu mb b E S hS;have t2 := zEu mb b (takeT E S) R hR;have p1 := zF8 mb b (takeT (takeT E S) R) U f1 hu;have p2 := zF8 mb b (putT (takeT (takeT E S) R) U) V f2 hv;clear hU hV hC hD he hf hS hR hu hv f1 f2 hc
 go_enter Tryz.func18, Tryz.ntmps18
 go_wp2_with fail;refine zA1 fun W1 hW => ?_;obtain ⟨Bp, Bq, hw⟩ := N2 hW;clear hW;refine (cl _ (Bm.ee hw) (Hm.ee hw)).mono ?_;rintro e w2 ⟨rfl, hb⟩;obtain ⟨Bp, Bq, hw, -⟩ := X2 Bp Bq hw hb;clear hb;have Fp := Bp.f;have Fq := Bq.f;go_wp2_with fail;clear Fp Fq;refine zA1 fun W3 hW => ?_;obtain ⟨bks, hbs⟩ : ∃ b, w2.heap.size = b := ⟨_, rfl⟩;rw [hbs];obtain ⟨lps, lqs, fs, Bs, Bp, Bq, hw⟩ := M2 hW hbs Bp Bq hw;clear hW hbs;refine (cr _ (Bm.ee hw) (Hm.ee hw)).mono ?_;rintro e w4 ⟨rfl, hb⟩;obtain ⟨Bp, Bq, Bs, hw, -⟩ := X3 Bp Bq Bs hw hb;clear hb;have Fp := Bp.f;have Fq := Bq.f;have Fs := Bs.f;go_wp2_with fail;clear Fp Fq Fs;refine zA2 fun W5 hW => ?_;obtain ⟨bkr, hbr⟩ : ∃ b, w4.heap.size = b := ⟨_, rfl⟩;rw [hbr];obtain ⟨lpr, lqr, lsr, fr, Br, Bp, Bq, Bs, hw⟩ := M3 hW hbr Bp Bq Bs hw;clear hW hbr;have g_pqsr := J4 Bp.cells Bq.cells Bs.cells Br.cells;refine zAq 10 [⟨8, 11, 30, [.int .i64 0, .int .i64 0]⟩, ⟨9, 12, 30, [.int .i64 0, .int .i64 0]⟩] ?_ (by kernel_rfl) (by decide) (by decide) (by kernel_rfl) (by decide) (C := fun w' => ∃ p : Regrown, w' = grow (redrawn W5 p.d) p.os) rgB ?_
 ·simp only [List.forall_mem_cons];refine ⟨⟨_, rfl, rfl, rfl, rfl, fun ρ W => by simp [execOp, go_sem]⟩, ⟨_, rfl, rfl, rfl, rfl, fun ρ W => by simp [execOp, go_sem]⟩, fun _ h => (by cases h)⟩
 simp only [List.take_succ_cons, List.take_zero, List.map_cons, List.map_nil, dropIdx, List.contains_cons, List.contains_nil, Nat.reduceBEq, Nat.reduceAdd, Bool.or_false, Bool.or_true, Bool.or_self, Bool.false_eq_true, if_true, if_false];repeat (first | (refine zA0 (Eq.refl false) ?_; simp only [Act.put, sT2, sT1, sT0]) | (refine rWalk_step (fun K hK => ?_); go_simp; first | (refine hK _ ?_; clear hK K) | (apply Exists.intro; refine ⟨fun _ => ?_, hK _ ?_⟩; (first | with_reducible exact toExt ca _ | with_reducible exact toExt cb _); clear hK K)))
 refine rWalk_nil ?_;intro w6 β hL;simp only [putD, List.drop_succ_cons, List.drop_zero];have qc := hL.box ⟨8, 11, 30, [.int .i64 0, .int .i64 0]⟩ (by simp) (by simp);simp only at qc;have qd := hL.box ⟨9, 12, 30, [.int .i64 0, .int .i64 0]⟩ (by simp) (by simp);simp only at qd;have ncd := hL.apart 11 (by simp) 12 (by simp) (by decide);have ndc := hL.apart 12 (by simp) 11 (by simp) (by decide);have hb := hL.below;have lp := Bp.lt;have lq := Bq.lt;have ls := Bs.lt;have lr := Br.lt;clear g_pqsr;replace Bp := Bp.ee hb;replace Bq := Bq.ee hb;replace Bs := Bs.ee hb;replace Br := Br.ee hb;have hw0 := hw.size;replace hw := upB hw hb;clear hb hL;generalize β 11 = bkc at *
 generalize β 12 = bkd at *
 clear β;obtain ⟨fc, Bc⟩ := qc;obtain ⟨fd, Bd⟩ := qd;simp only [Act.put];have Fc := Bc.f;have Fd := Bd.f;have Fp := Bp.f;have Fq := Bq.f;have Fs := Bs.f;have Fr := Br.f;have epbkc : (w.heap.size = bkc) = False := by simp; omega
 have epbkc' : (bkc = w.heap.size) = False := by simp; omega
 have epbkd : (w.heap.size = bkd) = False := by simp; omega
 have epbkd' : (bkd = w.heap.size) = False := by simp; omega
 have eqbkc : (w.heap.size + 1 = bkc) = False := by simp; omega
 have eqbkc' : (bkc = w.heap.size + 1) = False := by simp; omega
 have eqbkd : (w.heap.size + 1 = bkd) = False := by simp; omega
 have eqbkd' : (bkd = w.heap.size + 1) = False := by simp; omega
 have esbkc : (bks = bkc) = False := by simp; omega
 have esbkc' : (bkc = bks) = False := by simp; omega
 have esbkd : (bks = bkd) = False := by simp; omega
 have esbkd' : (bkd = bks) = False := by simp; omega
 have erbkc : (bkr = bkc) = False := by simp; omega
 have erbkc' : (bkc = bkr) = False := by simp; omega
 have erbkd : (bkr = bkd) = False := by simp; omega
 have erbkd' : (bkd = bkr) = False := by simp; omega
 have ebkcbkd : (bkc = bkd) = False := by simp; omega
 have ebkdbkc : (bkd = bkc) = False := by simp; omega
 go_wp2_with fail;refine zA1 fun W7 hW => ?_;have Cp : Box W7 (w.heap.size) [.int .i64 p.x, .int .i64 p.y] 30 := by rw [hW]; exact ((((Bp.sn bkc 0 (.int .i64 C.x) (by first | assumption | omega)).sn bkc 1 (.int .i64 C.y) (by first | assumption | omega)).sn bkd 0 (.int .i64 D.x) (by first | assumption | omega)).sn bkd 1 (.int .i64 D.y) (by first | assumption | omega))
 have Cq : Box W7 (w.heap.size + 1) [.int .i64 q.x, .int .i64 q.y] 30 := by rw [hW]; exact ((((Bq.sn bkc 0 (.int .i64 C.x) (by first | assumption | omega)).sn bkc 1 (.int .i64 C.y) (by first | assumption | omega)).sn bkd 0 (.int .i64 D.x) (by first | assumption | omega)).sn bkd 1 (.int .i64 D.y) (by first | assumption | omega))
 have Cs : Box W7 (bks) [.int .i64 S.A.x, .int .i64 S.A.y, .int .i64 S.B.x, .int .i64 S.B.y, .int .i64 S.C.x, .int .i64 S.C.y] 43 := by rw [hW]; exact ((((Bs.sn bkc 0 (.int .i64 C.x) (by first | assumption | omega)).sn bkc 1 (.int .i64 C.y) (by first | assumption | omega)).sn bkd 0 (.int .i64 D.x) (by first | assumption | omega)).sn bkd 1 (.int .i64 D.y) (by first | assumption | omega))
 have Cr : Box W7 (bkr) [.int .i64 R.A.x, .int .i64 R.A.y, .int .i64 R.B.x, .int .i64 R.B.y, .int .i64 R.C.x, .int .i64 R.C.y] 43 := by rw [hW]; exact ((((Br.sn bkc 0 (.int .i64 C.x) (by first | assumption | omega)).sn bkc 1 (.int .i64 C.y) (by first | assumption | omega)).sn bkd 0 (.int .i64 D.x) (by first | assumption | omega)).sn bkd 1 (.int .i64 D.y) (by first | assumption | omega))
 have Cc : Box W7 (bkc) [.int .i64 C.x, .int .i64 C.y] 30 := by rw [hW]; exact ((((Bc.set 0 (.int .i64 C.x)).set 1 (.int .i64 C.y)).sn bkd 0 (.int .i64 D.x) (by first | assumption | omega)).sn bkd 1 (.int .i64 D.y) (by first | assumption | omega))
 have Cd : Box W7 (bkd) [.int .i64 D.x, .int .i64 D.y] 30 := by rw [hW]; exact ((((Bd.sn bkc 0 (.int .i64 C.x) (by first | assumption | omega)).sn bkc 1 (.int .i64 C.y) (by first | assumption | omega)).set 0 (.int .i64 D.x)).set 1 (.int .i64 D.y))
 replace hw : Below w.heap.size w W7 := by have hl := hw.size; rw [hW]; go_grown
 clear Fc Fd;clear Fp Fq Fs Fr epbkc epbkc' epbkd epbkd' eqbkc eqbkc' eqbkd eqbkd' esbkc esbkc' esbkd esbkd' erbkc erbkc' erbkd erbkd' ebkcbkd ebkdbkc;clear hW Bp Bq Bs Br Bc Bd;have Bp := Cp;have Bq := Cq;have Bs := Cs;have Br := Cr;have Bc := Cc;have Bd := Cd;clear Cp Cq Cs Cr Cc Cd;refine (c1 _).mono ?_;rintro e w8 ⟨rfl, hb⟩;obtain ⟨Bp, Bq, Bs, Br, Bc, Bd, hw, -⟩ := X6 Bp Bq Bs Br Bc Bd hw hb;clear hb;have Fp := Bp.f;have Fq := Bq.f;have Fs := Bs.f;have Fr := Br.f;have Fc := Bc.f;have Fd := Bd.f;go_wp2_with fail;refine (c2 _).mono ?_;rintro e w9 ⟨rfl, hb⟩;clear Fp Fq Fs Fr Fc Fd;obtain ⟨Bp, Bq, Bs, Br, Bc, Bd, hw, -⟩ := X6 Bp Bq Bs Br Bc Bd hw hb;clear hb;have Fp := Bp.f;have Fq := Bq.f;have Fs := Bs.f;have Fr := Br.f;have Fc := Bc.f;have Fd := Bd.f;go_wp2_with fail;refine (cu _).mono ?_;rintro e w10 ⟨rfl, hb⟩;clear Fp Fq Fs Fr Fc Fd;obtain ⟨Bp, Bq, Bs, Br, Bc, Bd, hw, -⟩ := X6 Bp Bq Bs Br Bc Bd hw hb;clear hb;have Fp := Bp.f;have Fq := Bq.f;have Fs := Bs.f;have Fr := Br.f;have Fc := Bc.f;have Fd := Bd.f;go_wp2_with fail;clear Fp Fq Fs Fr Fc Fd;refine zA1 fun W11 hW => ?_;obtain ⟨bku, hbu⟩ : ∃ b, w10.heap.size = b := ⟨_, rfl⟩;rw [hbu];obtain ⟨lpu, lqu, lsu, lru, lcu, ldu, fu, Bu, Bp, Bq, Bs, Br, Bc, Bd, hw⟩ := M6 hW hbu Bp Bq Bs Br Bc Bd hw;clear hW hbu;refine (cv _).mono ?_;rintro e w12 ⟨rfl, hb⟩;obtain ⟨Bp, Bq, Bs, Br, Bc, Bd, Bu, hw, -⟩ := X7 Bp Bq Bs Br Bc Bd Bu hw hb;clear hb;have Fp := Bp.f;have Fq := Bq.f;have Fs := Bs.f;have Fr := Br.f;have Fc := Bc.f;have Fd := Bd.f;have Fu := Bu.f;go_wp2_with fail;clear Fp Fq Fs Fr Fc Fd Fu;refine zA1 fun W13 hW => ?_;obtain ⟨bkv, hbv⟩ : ∃ b, w12.heap.size = b := ⟨_, rfl⟩;rw [hbv];obtain ⟨lpv, lqv, lsv, lrv, lcv, ldv, luv, fv, Bv, Bp, Bq, Bs, Br, Bc, Bd, Bu, hw⟩ := M7 hW hbv Bp Bq Bs Br Bc Bd Bu hw;clear hW hbv;refine (ce _ (Bm.ee hw) (Hm.ee hw)).mono ?_;rintro e w14 ⟨rfl, hb⟩;obtain ⟨Bp, Bq, Bs, Br, Bc, Bd, Bu, Bv, hw, -⟩ := X8 Bp Bq Bs Br Bc Bd Bu Bv hw hb;clear hb;have Fp := Bp.f;have Fq := Bq.f;have Fs := Bs.f;have Fr := Br.f;have Fc := Bc.f;have Fd := Bd.f;have Fu := Bu.f;have Fv := Bv.f;go_wp2_with fail;clear Fp Fq Fs Fr Fc Fd Fu Fv;refine zA1 fun W15 hW => ?_;obtain ⟨bko, hbo⟩ : ∃ b, w14.heap.size = b := ⟨_, rfl⟩;rw [hbo];obtain ⟨lpo, lqo, lso, lro, lco, ldo, luo, lvo, fo, Bo, Bp, Bq, Bs, Br, Bc, Bd, Bu, Bv, hw⟩ := M8 hW hbo Bp Bq Bs Br Bc Bd Bu Bv hw;clear hW hbo;refine (cf _ (Bm.ee hw) (Hm.ee hw)).mono ?_;rintro e w16 ⟨rfl, hb⟩;obtain ⟨Bp, Bq, Bs, Br, Bc, Bd, Bu, Bv, Bo, hw, -⟩ := X9 Bp Bq Bs Br Bc Bd Bu Bv Bo hw hb;clear hb;have Fp := Bp.f;have Fq := Bq.f;have Fs := Bs.f;have Fr := Br.f;have Fc := Bc.f;have Fd := Bd.f;have Fu := Bu.f;have Fv := Bv.f;have Fo := Bo.f;go_wp2_with fail;clear Fp Fq Fs Fr Fc Fd Fu Fv Fo;refine zA1 fun W17 hW => ?_;obtain ⟨bkk, hbk⟩ : ∃ b, w16.heap.size = b := ⟨_, rfl⟩;rw [hbk];have lpk := Bp.lt;rw [hbk] at lpk;have lqk := Bq.lt;rw [hbk] at lqk;have lsk := Bs.lt;rw [hbk] at lsk;have lrk := Br.lt;rw [hbk] at lrk;have lck := Bc.lt;rw [hbk] at lck;have ldk := Bd.lt;rw [hbk] at ldk;have luk := Bu.lt;rw [hbk] at luk;have lvk := Bv.lt;rw [hbk] at lvk;have lok := Bo.lt;rw [hbk] at lok;have fk := hw.size;rw [hbk] at fk;have Bk : Box W17 bkk [.int .i64 0, .int .i64 0, .int .i64 0, .int .i64 0, .int .i64 0, .int .i64 0] 43 := by rw [hW]; exact Box.new hbk.symm
 replace Bp : Box W17 (w.heap.size) [.int .i64 p.x, .int .i64 p.y] 30 := by rw [hW]; exact Bp.old _
 replace Bq : Box W17 (w.heap.size + 1) [.int .i64 q.x, .int .i64 q.y] 30 := by rw [hW]; exact Bq.old _
 replace Bs : Box W17 (bks) [.int .i64 S.A.x, .int .i64 S.A.y, .int .i64 S.B.x, .int .i64 S.B.y, .int .i64 S.C.x, .int .i64 S.C.y] 43 := by rw [hW]; exact Bs.old _
 replace Br : Box W17 (bkr) [.int .i64 R.A.x, .int .i64 R.A.y, .int .i64 R.B.x, .int .i64 R.B.y, .int .i64 R.C.x, .int .i64 R.C.y] 43 := by rw [hW]; exact Br.old _
 replace Bc : Box W17 (bkc) [.int .i64 C.x, .int .i64 C.y] 30 := by rw [hW]; exact Bc.old _
 replace Bd : Box W17 (bkd) [.int .i64 D.x, .int .i64 D.y] 30 := by rw [hW]; exact Bd.old _
 replace Bu : Box W17 (bku) [.int .i64 U.A.x, .int .i64 U.A.y, .int .i64 U.B.x, .int .i64 U.B.y, .int .i64 U.C.x, .int .i64 U.C.y] 43 := by rw [hW]; exact Bu.old _
 replace Bv : Box W17 (bkv) [.int .i64 V.A.x, .int .i64 V.A.y, .int .i64 V.B.x, .int .i64 V.B.y, .int .i64 V.C.x, .int .i64 V.C.y] 43 := by rw [hW]; exact Bv.old _
 replace Bo : Box W17 (bko) [.int .i64 0, .int .i64 0, .int .i64 0, .int .i64 0, .int .i64 0, .int .i64 0] 43 := by rw [hW]; exact Bo.old _
 replace hw : Below w.heap.size w W17 := by have hl := hw.size; rw [hW]; go_grown
 clear hW hbk;have BM := Bm.ee hw;have HF := Hm.ee hw;have hg : w.grownBy W17 (some b) := zA7 hw _;clear hw Bm Hm;refine (t1 _ BM HF).mono ?_;rintro e c18 ⟨rfl, hh, HG⟩;replace Bp := Bp.turn HF hh;replace Bq := Bq.turn HF hh;replace Bs := Bs.turn HF hh;replace Br := Br.turn HF hh;replace Bc := Bc.turn HF hh;replace Bd := Bd.turn HF hh;replace Bu := Bu.turn HF hh;replace Bv := Bv.turn HF hh;replace Bo := Bo.turn HF hh;replace Bk := Bk.turn HF hh;replace BM := BM.turn HF hh;replace hg := zA9 hg hh;clear HF hh;have HF := HG;clear HG;have Fp := Bp.f;have Fq := Bq.f;have Fs := Bs.f;have Fr := Br.f;have Fc := Bc.f;have Fd := Bd.f;have Fu := Bu.f;have Fv := Bv.f;have Fo := Bo.f;have Fk := Bk.f;go_wp2_with fail;refine (t2 _ BM HF).mono ?_;rintro e c19 ⟨rfl, hh, HG⟩;clear Fp Fq Fs Fr Fc Fd Fu Fv Fo Fk;replace Bp := Bp.turn HF hh;replace Bq := Bq.turn HF hh;replace Bs := Bs.turn HF hh;replace Br := Br.turn HF hh;replace Bc := Bc.turn HF hh;replace Bd := Bd.turn HF hh;replace Bu := Bu.turn HF hh;replace Bv := Bv.turn HF hh;replace Bo := Bo.turn HF hh;replace Bk := Bk.turn HF hh;replace BM := BM.turn HF hh;replace hg := zA9 hg hh;clear HF hh;have HF := HG;clear HG;have Fp := Bp.f;have Fq := Bq.f;have Fs := Bs.f;have Fr := Br.f;have Fc := Bc.f;have Fd := Bd.f;have Fu := Bu.f;have Fv := Bv.f;have Fo := Bo.f;have Fk := Bk.f;go_wp2_with fail;refine (p1 _ BM HF).mono ?_;rintro e c20 ⟨rfl, hh, HG⟩;clear Fp Fq Fs Fr Fc Fd Fu Fv Fo Fk;replace Bp := Bp.turn HF hh;replace Bq := Bq.turn HF hh;replace Bs := Bs.turn HF hh;replace Br := Br.turn HF hh;replace Bc := Bc.turn HF hh;replace Bd := Bd.turn HF hh;replace Bu := Bu.turn HF hh;replace Bv := Bv.turn HF hh;replace Bo := Bo.turn HF hh;replace Bk := Bk.turn HF hh;replace BM := BM.turn HF hh;replace hg := zA9 hg hh;clear HF hh;have HF := HG;clear HG;have Fp := Bp.f;have Fq := Bq.f;have Fs := Bs.f;have Fr := Br.f;have Fc := Bc.f;have Fd := Bd.f;have Fu := Bu.f;have Fv := Bv.f;have Fo := Bo.f;have Fk := Bk.f;go_wp2_with fail;refine (p2 _ BM HF).mono ?_;rintro e w99 ⟨rfl, hh, HG⟩;clear Fp Fq Fs Fr Fc Fd Fu Fv Fo Fk;replace hg := zA9 hg hh;go_wp2
 go_ret
 exact ⟨rfl, hg, HG⟩
end Go.Proofs.YtjkfakaehjmnbaaGreat
namespace Go.Proofs.YtjkfakaehjmnbaaGreat
open Go.RowKit
def crs (a b q : Pt) : Int := if a.y ≤ q.y ∧ q.y < b.y ∧ 0 < det a b q then 1 else if b.y ≤ q.y ∧ q.y < a.y ∧ det a b q < 0 then -1 else 0
theorem zBq (a b q : Pt) : crs b a q = - crs a b q := by
 unfold crs;rw [zCy]
 (repeat' split) <;> omega
theorem zB8 {a b : Int} (ha : 0 < a) : 0 < a * b ↔ 0 < b := by
 constructor
 ·intro h;rcases Int.lt_trichotomy b 0 with k | k | k
  ·have := Int.mul_neg_of_pos_of_neg ha k; omega
  ·rw [k, Int.mul_zero] at h; omega
  ·exact k
 ·intro h; exact Int.mul_pos ha h
theorem zCe {a b : Int} (ha : 0 < a) : a * b < 0 ↔ b < 0 := by
 have := zB8 (b := -b) ha;rw [Int.mul_neg] at this;omega
theorem zBh {a b : Int} (ha : 0 < a) : 0 ≤ a * b ↔ 0 ≤ b := by
 have := zCe (b := b) ha;omega
theorem crs_add {a b p : Pt} (h : det a b p = 0) (hb : (a.y ≤ p.y ∧ p.y ≤ b.y) ∨ (b.y ≤ p.y ∧ p.y ≤ a.y)) (q : Pt) : crs a b q = crs a p q + crs p b q := by
 have e1 : (b.y - a.y) * det a p q = (p.y - a.y) * det a b q - (q.y - a.y) * det a b p := by unfold det; grind
 have e2 : (b.y - a.y) * det p b q = (b.y - p.y) * det a b q + (q.y - b.y) * det a b p := by unfold det; grind
 rw [h, Int.mul_zero] at e1 e2;rw [Int.sub_zero] at e1;rw [Int.add_zero] at e2;have key : ∀ (s t d f : Int), 0 < s → 0 < t → s * f = t * d → ((0 < f ↔ 0 < d) ∧ (f < 0 ↔ d < 0)) := by
  intro s t d f hs ht h;refine ⟨?_, ?_⟩
  ·rw [← zB8 hs, h, zB8 ht]
  ·rw [← zCe hs, h, zCe ht]
 have key' : ∀ (s t d f : Int), s < 0 → t < 0 → s * f = t * d → ((0 < f ↔ 0 < d) ∧ (f < 0 ↔ d < 0)) := by
  intro s t d f hs ht h;refine key (-s) (-t) d f (by omega) (by omega) ?_;rw [Int.neg_mul, Int.neg_mul, h]
 unfold crs;rcases Int.lt_trichotomy a.y b.y with hab | hab | hab
 ·have k1 : a.y < p.y → ((0 < det a p q ↔ 0 < det a b q) ∧ (det a p q < 0 ↔ det a b q < 0)) := fun hp => key _ _ _ _ (by omega) (by omega) e1;have k2 : p.y < b.y → ((0 < det p b q ↔ 0 < det a b q) ∧ (det p b q < 0 ↔ det a b q < 0)) := fun hp => key _ _ _ _ (by omega) (by omega) e2
  (repeat' split) <;> omega
 ·(repeat' split) <;> omega
 ·have k1 : p.y < a.y → ((0 < det a p q ↔ 0 < det a b q) ∧ (det a p q < 0 ↔ det a b q < 0)) := fun hp => key' _ _ _ _ (by omega) (by omega) e1;have k2 : b.y < p.y → ((0 < det p b q ↔ 0 < det a b q) ∧ (det p b q < 0 ↔ det a b q < 0)) := fun hp => key' _ _ _ _ (by omega) (by omega) e2
  (repeat' split) <;> omega
def hin (T : Tri3) (q : Pt) : Int := crs T.A T.B q + crs T.B T.C q + crs T.C T.A q
theorem zCb {a b c q : Pt} (hD : 0 < det a b c) :
    (a.y ≤ q.y → q.y < b.y → c.y ≤ q.y → det b c q < 0 → 0 < det a b q) ∧
    (a.y ≤ q.y → q.y < b.y → q.y < c.y → det c a q < 0 → 0 < det a b q) := by
 refine ⟨fun h1 h2 h3 h4 => ?_, fun h1 h2 h3 h4 => ?_⟩
 ·have e : (b.y - c.y) * det a b q = (b.y - q.y) * det a b c - (b.y - a.y) * det b c q := by unfold det; grind
  have p1 : 0 < (b.y - q.y) * det a b c := Int.mul_pos (by omega) hD;have p2 : (b.y - a.y) * det b c q < 0 := Int.mul_neg_of_pos_of_neg (by omega) h4;exact (zB8 (a := b.y - c.y) (by omega)).1 (by omega)
 ·have e : (c.y - a.y) * det a b q = (q.y - a.y) * det a b c - (b.y - a.y) * det c a q := by unfold det; grind
  have p1 : 0 ≤ (q.y - a.y) * det a b c := Int.mul_nonneg (by omega) (by omega);have p2 : (b.y - a.y) * det c a q < 0 := Int.mul_neg_of_pos_of_neg (by omega) h4;exact (zB8 (a := c.y - a.y) (by omega)).1 (by omega)
theorem zBu {a b c q : Pt} :
    (a.y ≤ q.y → q.y < b.y → c.y ≤ q.y → 0 < det a b q → 0 ≤ det b c q → 0 ≤ det c a q) ∧
    (a.y ≤ q.y → q.y < b.y → q.y < c.y → 0 < det a b q → 0 ≤ det c a q → 0 ≤ det b c q) := by
 have e : det a b q * (c.y - q.y) + det b c q * (a.y - q.y) + det c a q * (b.y - q.y) = 0 := by unfold det; grind
 refine ⟨fun h1 h2 h3 h4 h5 => ?_, fun h1 h2 h3 h4 h5 => ?_⟩
 ·have p1 : 0 ≤ det a b q * (q.y - c.y) := Int.mul_nonneg (by omega) (by omega);have p2 : 0 ≤ det b c q * (q.y - a.y) := Int.mul_nonneg (by omega) (by omega);have : (b.y - q.y) * det c a q = det a b q * (q.y - c.y) + det b c q * (q.y - a.y) := by grind
  exact (zBh (a := b.y - q.y) (by omega)).1 (by omega)
 ·have p1 : 0 < det a b q * (c.y - q.y) := Int.mul_pos (by omega) (by omega);have p2 : 0 ≤ det c a q * (b.y - q.y) := Int.mul_nonneg (by omega) (by omega);have : (q.y - a.y) * det b c q = det a b q * (c.y - q.y) + det c a q * (b.y - q.y) := by grind
  rcases Int.lt_or_eq_of_le h1 with h | h
  ·exact (zBh (a := q.y - a.y) (by omega)).1 (by omega)
  ·rw [h, Int.sub_self, Int.zero_mul] at this; omega
theorem zJ5 {a b q : Pt} (h1 : a.y ≤ q.y) (h2 : q.y < b.y) : crs a b q = if 0 < det a b q then 1 else 0 := by
 unfold crs
 (repeat' split) <;> omega
theorem zEd {a b q : Pt} (h1 : b.y ≤ q.y) (h2 : q.y < a.y) : crs a b q = if det a b q < 0 then -1 else 0 := by
 unfold crs
 (repeat' split) <;> omega
theorem zD7 {a b q : Pt} (h1 : a.y ≤ q.y) (h2 : b.y ≤ q.y) : crs a b q = 0 := by
 unfold crs
 (repeat' split) <;> omega
theorem zD8 {a b q : Pt} (h1 : q.y < a.y) (h2 : q.y < b.y) : crs a b q = 0 := by
 unfold crs
 (repeat' split) <;> omega
theorem cover_flat {a b c q : Pt} (hD : 0 < det a b c) (h1 : 0 < det a b q) (h2 : 0 < det b c q) (h3 : 0 < det c a q) :
    ¬ (c.y ≤ q.y ∧ a.y ≤ q.y ∧ b.y ≤ q.y) ∧ ¬ (q.y < c.y ∧ q.y < a.y ∧ q.y < b.y) := by
 have e : det a b q * (q.y - c.y) + det b c q * (q.y - a.y) + det c a q * (q.y - b.y) = 0 := by unfold det; grind
 have e' : det a b q * (c.y - q.y) + det b c q * (a.y - q.y) + det c a q * (b.y - q.y) = 0 := by unfold det; grind
 refine ⟨fun ⟨k1, k2, k3⟩ => ?_, fun ⟨k1, k2, k3⟩ => ?_⟩
 ·have m1 : 0 ≤ det a b q * (q.y - c.y) := Int.mul_nonneg (by omega) (by omega);have m2 : 0 ≤ det b c q * (q.y - a.y) := Int.mul_nonneg (by omega) (by omega);have m3 : 0 ≤ det c a q * (q.y - b.y) := Int.mul_nonneg (by omega) (by omega);have z1 : det a b q * (q.y - c.y) = 0 := by omega
  have z2 : det b c q * (q.y - a.y) = 0 := by omega
  have z3 : det c a q * (q.y - b.y) = 0 := by omega
  have y1 : q.y = c.y := by rcases Int.mul_eq_zero.1 z1 with h | h <;> omega
  have y2 : q.y = a.y := by rcases Int.mul_eq_zero.1 z2 with h | h <;> omega
  have y3 : q.y = b.y := by rcases Int.mul_eq_zero.1 z3 with h | h <;> omega
  have : det a b c = 0 := by
   unfold det;rw [show c.y - a.y = 0 by omega, show b.y - a.y = 0 by omega]; simp
  omega
 ·have m1 : 0 < det a b q * (c.y - q.y) := Int.mul_pos (by omega) (by omega);have m2 : 0 < det b c q * (a.y - q.y) := Int.mul_pos (by omega) (by omega);have m3 : 0 < det c a q * (b.y - q.y) := Int.mul_pos (by omega) (by omega);omega
theorem zD9 {u v w S : Int} (h : S = (if 0 < u then 1 else 0) + (if v < 0 then -1 else 0)) (hp : v < 0 → 0 < u) (ht : 0 < u → 0 ≤ v → 0 ≤ w) :
    (0 ≤ S ∧ S ≤ 1) ∧ (0 < S → 0 ≤ u ∧ 0 ≤ v ∧ 0 ≤ w) ∧ (0 < u → 0 < v → 0 < w → S = 1) := by
 rw [h]; clear h
 (repeat' split) <;> omega
theorem zJs {a b c : Pt} (hD : 0 < det a b c) (q : Pt) :
    (0 ≤ crs a b q + crs b c q + crs c a q ∧ crs a b q + crs b c q + crs c a q ≤ 1) ∧
    (0 < crs a b q + crs b c q + crs c a q → 0 ≤ det a b q ∧ 0 ≤ det b c q ∧ 0 ≤ det c a q) ∧
    (0 < det a b q → 0 < det b c q → 0 < det c a q → crs a b q + crs b c q + crs c a q = 1) := by
 have hD2 : 0 < det b c a := by rw [zB0]; exact hD
 have hD3 : 0 < det c a b := by rw [zB0, zB0]; exact hD
 have f := cover_flat (q := q) hD;by_cases ha : a.y ≤ q.y <;> by_cases hb : b.y ≤ q.y <;> by_cases hc : c.y ≤ q.y
 ·rw [zD7 ha hb, zD7 hb hc, zD7 hc ha];exact ⟨by omega, by omega, fun h1 h2 h3 => absurd ⟨hc, ha, hb⟩ (f h1 h2 h3).1⟩
 ·obtain ⟨r1, r2, r3⟩ := zD9 (u := det b c q) (v := det c a q) (w := det a b q) (S := crs a b q + crs b c q + crs c a q)
    (by rw [zD7 ha hb, zJ5 hb (by omega), zEd ha (by omega)]; omega) ((zCb hD2).1 hb (by omega) ha) (zBu.1 hb (by omega) ha)
  exact ⟨r1, fun h => ⟨(r2 h).2.2, (r2 h).1, (r2 h).2.1⟩, fun h1 h2 h3 => r3 h2 h3 h1⟩
 ·obtain ⟨r1, r2, r3⟩ := zD9 (u := det a b q) (v := det b c q) (w := det c a q) (S := crs a b q + crs b c q + crs c a q)
    (by rw [zJ5 ha (by omega), zEd hc (by omega), zD7 hc ha]; omega) ((zCb hD).1 ha (by omega) hc) (zBu.1 ha (by omega) hc)
  exact ⟨r1, fun h => ⟨(r2 h).1, (r2 h).2.1, (r2 h).2.2⟩, fun h1 h2 h3 => r3 h1 h2 h3⟩
 ·obtain ⟨r1, r2, r3⟩ := zD9 (u := det a b q) (v := det c a q) (w := det b c q) (S := crs a b q + crs b c q + crs c a q)
    (by rw [zJ5 ha (by omega), zD8 (by omega) (by omega), zEd ha (by omega)]; omega) ((zCb hD).2 ha (by omega) (by omega)) (zBu.2 ha (by omega) (by omega))
  exact ⟨r1, fun h => ⟨(r2 h).1, (r2 h).2.2, (r2 h).2.1⟩, fun h1 h2 h3 => r3 h1 h3 h2⟩
 ·obtain ⟨r1, r2, r3⟩ := zD9 (u := det c a q) (v := det a b q) (w := det b c q) (S := crs a b q + crs b c q + crs c a q)
    (by rw [zEd hb (by omega), zD7 hb hc, zJ5 hc (by omega)]; omega) ((zCb hD3).1 hc (by omega) hb) (zBu.1 hc (by omega) hb)
  exact ⟨r1, fun h => ⟨(r2 h).2.1, (r2 h).2.2, (r2 h).1⟩, fun h1 h2 h3 => r3 h3 h1 h2⟩
 ·obtain ⟨r1, r2, r3⟩ := zD9 (u := det b c q) (v := det a b q) (w := det c a q) (S := crs a b q + crs b c q + crs c a q)
    (by rw [zEd hb (by omega), zJ5 hb (by omega), zD8 (by omega) (by omega)]; omega) ((zCb hD2).2 hb (by omega) (by omega)) (zBu.2 hb (by omega) (by omega))
  exact ⟨r1, fun h => ⟨(r2 h).2.1, (r2 h).1, (r2 h).2.2⟩, fun h1 h2 h3 => r3 h2 h1 h3⟩
 ·obtain ⟨r1, r2, r3⟩ := zD9 (u := det c a q) (v := det b c q) (w := det a b q) (S := crs a b q + crs b c q + crs c a q)
    (by rw [zD8 (by omega) (by omega), zEd hc (by omega), zJ5 hc (by omega)]; omega) ((zCb hD3).2 hc (by omega) (by omega)) (zBu.2 hc (by omega) (by omega))
  exact ⟨r1, fun h => ⟨(r2 h).2.2, (r2 h).2.1, (r2 h).1⟩, fun h1 h2 h3 => r3 h3 h2 h1⟩
 ·rw [zD8 (by omega) (by omega), zD8 (by omega) (by omega), zD8 (by omega) (by omega)];exact ⟨by omega, by omega, fun h1 h2 h3 => absurd ⟨by omega, by omega, by omega⟩ (f h1 h2 h3).2⟩
def sc (K : Int) (p : Pt) : Pt := ⟨K * p.x, K * p.y⟩
theorem sc_det (K : Int) (a b c : Pt) : det (sc K a) (sc K b) (sc K c) = K * (K * det a b c) := by unfold det sc; grind
def crd (a b v : Pt) : Int := (b.x - a.x) * v.y - (b.y - a.y) * v.x
def ways (T : Tri3) : List (Pt × Pt) := [(T.A, T.B), (T.B, T.C), (T.C, T.A)]
def cvr (K : Int) : List (Pt × Pt) → Pt → Int
 | [], _ => 0
 | w :: l, q => crs (sc K w.1) (sc K w.2) q + cvr K l q
theorem zCa (K : Int) (l m : List (Pt × Pt)) (q : Pt) : cvr K (l ++ m) q = cvr K l q + cvr K m q := by
 induction l with
 | nil => simp [cvr]
 | cons w l ih => simp only [List.cons_append, cvr, ih]; omega
theorem zH2 {K : Int} {l m : List (Pt × Pt)} (h : l.Perm m) (q : Pt) : cvr K l q = cvr K m q := by
 induction h with
 | nil => rfl
 | cons x _ ih => simp only [cvr, ih]
 | swap x y l => simp only [cvr]; omega
 | trans _ _ h1 h2 => exact h1.trans h2
def onRim (W H : Int) (a b : Pt) : Prop := (a.x = 0 ∧ b.x = 0) ∨ (a.x = W ∧ b.x = W) ∨ (a.y = 0 ∧ b.y = 0) ∨ (a.y = H ∧ b.y = H)
def inBox (W H : Int) (p : Pt) : Prop := (0 ≤ p.x ∧ p.x ≤ W) ∧ 0 ≤ p.y ∧ p.y ≤ H
def sqr (W H : Int) (q : Pt) : Int := if (0 ≤ q.x ∧ q.x < W) ∧ 0 ≤ q.y ∧ q.y < H then 1 else 0
def sumA : List Tri3 → Int
 | [] => 0
 | T :: L => det T.A T.B T.C + sumA L
theorem sumA_append (l m : List Tri3) : sumA (l ++ m) = sumA l + sumA m := by
 induction l with
 | nil => simp [sumA]
 | cons w l ih => simp only [List.cons_append, sumA, ih]; omega
theorem sumA_perm {l m : List Tri3} (h : l.Perm m) : sumA l = sumA m := by
 induction h with
 | nil => rfl
 | cons x _ ih => simp only [sumA, ih]
 | swap x y l => simp only [sumA]; omega
 | trans _ _ h1 h2 => exact h1.trans h2
structure Tiles (W H : Int) (L : List Tri3) : Prop where
 pos : ∀ T ∈ L, 0 < det T.A T.B T.C
 once : (L.flatMap ways).Nodup
 box : ∀ T ∈ L, inBox W H T.A ∧ inBox W H T.B ∧ inBox W H T.C
 rim : ∀ w ∈ L.flatMap ways, (w.2, w.1) ∈ L.flatMap ways ∨ onRim W H w.1 w.2
 cov : ∀ K, 0 < K → ∀ q, cvr K (L.flatMap ways) q = sqr (K * W) (K * H) q
 area : sumA L = 2 * (W * H)
theorem zB6 {L M : List Tri3} (h : L.Perm M) : (L.flatMap ways).Perm (M.flatMap ways) := h.flatMap_right _
theorem Tiles.perm {W H : Int} {L M : List Tri3} (h : Tiles W H L) (p : L.Perm M) : Tiles W H M where
 pos := fun T hT => h.pos T (p.mem_iff.2 hT)
 once := (zB6 p).nodup_iff.1 h.once
 box := fun T hT => h.box T (p.mem_iff.2 hT)
 rim := fun w hw => by
  have := h.rim w ((zB6 p).mem_iff.2 hw)
  rwa [(zB6 p).mem_iff] at this
 cov := fun K hK q => by rw [← zH2 (zB6 p)]; exact h.cov K hK q
 area := by rw [← sumA_perm p]; exact h.area
def hinK (K : Int) (T : Tri3) (q : Pt) : Int := cvr K (ways T) q
theorem zJt (K : Int) (T : Tri3) (q : Pt) : hinK K T q = crs (sc K T.A) (sc K T.B) q + crs (sc K T.B) (sc K T.C) q + crs (sc K T.C) (sc K T.A) q := by
 simp only [hinK, ways, cvr]; omega
theorem zKv {K : Int} (hK : 0 < K) {a b c : Pt} (h : 0 < det a b c) : 0 < det (sc K a) (sc K b) (sc K c) := by
 rw [sc_det]; exact Int.mul_pos hK (Int.mul_pos hK h)
theorem hinK_nn {K : Int} (hK : 0 < K) {T : Tri3} (h : 0 < det T.A T.B T.C) (q : Pt) : 0 ≤ hinK K T q ∧ hinK K T q ≤ 1 := by
 rw [zJt]; exact (zJs (zKv hK h) q).1
theorem cvr_nn {K : Int} (hK : 0 < K) : ∀ {L : List Tri3}, (∀ T ∈ L, 0 < det T.A T.B T.C) → ∀ q, 0 ≤ cvr K (L.flatMap ways) q
 | [], _, q => by simp [cvr]
 | T :: L, h, q => by
  rw [List.flatMap_cons, zCa];have := cvr_nn hK (L := L) (fun S hS => h S (by simp [hS])) q;have := (hinK_nn hK (h T (by simp)) q).1;unfold hinK at this;omega
theorem zK0 {K : Int} (hK : 0 < K) : ∀ {L : List Tri3}, (∀ T ∈ L, 0 < det T.A T.B T.C) → ∀ q, 0 < cvr K (L.flatMap ways) q → ∃ T ∈ L, 0 < hinK K T q
 | [], _, q, h => by simp [cvr] at h
 | T :: L, h, q, hc => by
  rw [List.flatMap_cons, zCa] at hc;by_cases hT : 0 < hinK K T q
  ·exact ⟨T, by simp, hT⟩
  ·unfold hinK at hT;obtain ⟨S, hS, h1⟩ := zK0 hK (L := L) (fun S hS => h S (by simp [hS])) q (by omega);exact ⟨S, by simp [hS], h1⟩
theorem zDm {α : Type} [DecidableEq α] {L : List α} {a b : α} (ha : a ∈ L) (hb : b ∈ L) (h : a ≠ b) : ∃ M, L.Perm (a :: b :: M) := by
 have h1 := List.perm_cons_erase ha;have hb' : b ∈ L.erase a := (List.mem_erase_of_ne (fun e => h e.symm)).2 hb;exact ⟨(L.erase a).erase b, h1.trans ((List.perm_cons_erase hb').cons a)⟩
section
variable {W H : Int} {L : List Tri3} (h : Tiles W H L)
include h
theorem Tiles.apart {S T : Tri3} (hS : S ∈ L) (hT : T ∈ L) (hne : S ≠ T) {K : Int} (hK : 0 < K) (q : Pt) : ¬ (hinK K S q = 1 ∧ hinK K T q = 1) := by
 intro ⟨h1, h2⟩;obtain ⟨M, hM⟩ := zDm hS hT hne;have h' := h.perm hM;have hc := h'.cov K hK q;rw [List.flatMap_cons, List.flatMap_cons, zCa, zCa] at hc;have := cvr_nn hK (L := M) (fun U hU => h'.pos U (by simp [hU])) q;unfold hinK at h1 h2;have : sqr (K * W) (K * H) q ≤ 1 := by unfold sqr; split <;> omega
 omega
end
def near3 (M : Int) (a b c p v : Pt) : Prop :=
 (0 < det (sc M a) (sc M b) p ∨ (det (sc M a) (sc M b) p = 0 ∧ 0 < crd a b v)) ∧
 (0 < det (sc M b) (sc M c) p ∨ (det (sc M b) (sc M c) p = 0 ∧ 0 < crd b c v)) ∧
 (0 < det (sc M c) (sc M a) p ∨ (det (sc M c) (sc M a) p = 0 ∧ 0 < crd c a v))
def near (M : Int) (T : Tri3) (p v : Pt) : Prop := near3 M T.A T.B T.C p v
theorem zHx {M : Int} {a b c p v : Pt} (h : near3 M a b c p v) : near3 M b c a p v := ⟨h.2.1, h.2.2, h.1⟩
theorem zHt {M K d c e : Int} (hM : 0 < M) (hK : 0 < K) (h : 0 < d ∨ (d = 0 ∧ 0 < c)) (hc : e = K * (K * d + M * c)) (hb : M * c + K > 0) : 0 < e := by
 rw [hc];refine Int.mul_pos hK ?_;rcases h with h | ⟨h, k⟩
 ·have : K ≤ K * d := by
    have k0 : 0 ≤ K * (d - 1) := Int.mul_nonneg (by omega) (by omega);rw [Int.mul_sub, Int.mul_one] at k0;omega
  omega
 ·rw [h, Int.mul_zero, Int.zero_add]; exact Int.mul_pos hM k
theorem zE3 (M K : Int) (a b p v : Pt) : det (sc (K * M) a) (sc (K * M) b) ⟨K * p.x + v.x, K * p.y + v.y⟩ = K * (K * det (sc M a) (sc M b) p + M * crd a b v) := by unfold det sc crd; grind
def big (M : Int) (T : Tri3) (v : Pt) : Int := (M * crd T.A T.B v).natAbs + (M * crd T.B T.C v).natAbs + (M * crd T.C T.A v).natAbs
theorem zKi {M : Int} (hM : 0 < M) {T : Tri3} {p v : Pt} (hp : 0 < det T.A T.B T.C) (hn : near M T p v) {K : Int} (hK : big M T v < K) : hinK (K * M) T ⟨K * p.x + v.x, K * p.y + v.y⟩ = 1 := by
 obtain ⟨h1, h2, h3⟩ := hn;unfold big at hK;have hK0 : 0 < K := by omega
 rw [zJt];refine (zJs (zKv (Int.mul_pos hK0 hM) hp) _).2.2 ?_ ?_ ?_
 ·exact zHt hM hK0 h1 (zE3 M K _ _ p v) (by omega)
 ·exact zHt hM hK0 h2 (zE3 M K _ _ p v) (by omega)
 ·exact zHt hM hK0 h3 (zE3 M K _ _ p v) (by omega)
theorem Tiles.same {W H : Int} {L : List Tri3} (h : Tiles W H L) {S T : Tri3} (hS : S ∈ L) (hT : T ∈ L) {M : Int} (hM : 0 < M) {p v : Pt} (h1 : near M S p v) (h2 : near M T p v) : S = T := by
 refine Decidable.byContradiction fun hne => ?_;have hK : 0 < big M S v + big M T v + 1 := by unfold big; omega
 exact h.apart hS hT hne (Int.mul_pos hK hM) _ ⟨zKi hM (h.pos S hS) h1 (by unfold big; omega), zKi hM (h.pos T hT) h2 (by unfold big; omega)⟩
theorem zJ3 (p : Pt) : sc 1 p = p := by rw [Pt.eq_iff]; simp [sc]
def Cyc (T : Tri3) (a b c : Pt) : Prop := (a = T.A ∧ b = T.B ∧ c = T.C) ∨ (a = T.B ∧ b = T.C ∧ c = T.A) ∨ (a = T.C ∧ b = T.A ∧ c = T.B)
theorem Cyc.refl (T : Tri3) : Cyc T T.A T.B T.C := .inl ⟨rfl, rfl, rfl⟩
theorem Cyc.turn {T : Tri3} {a b c : Pt} (h : Cyc T a b c) : Cyc T b c a := by
 rcases h with ⟨h1, h2, h3⟩ | ⟨h1, h2, h3⟩ | ⟨h1, h2, h3⟩
 ·exact .inr (.inl ⟨h2, h3, h1⟩)
 ·exact .inr (.inr ⟨h2, h3, h1⟩)
 ·exact .inl ⟨h2, h3, h1⟩
theorem Cyc.det {T : Tri3} {a b c : Pt} (h : Cyc T a b c) : det a b c = det T.A T.B T.C := by
 rcases h with ⟨rfl, rfl, rfl⟩ | ⟨rfl, rfl, rfl⟩ | ⟨rfl, rfl, rfl⟩
 ·rfl
 ·rw [zB0]
 ·rw [zB0, zB0]
theorem Cyc.near {T : Tri3} {a b c : Pt} (h : Cyc T a b c) {M : Int} {p v : Pt} (hn : near3 M a b c p v) : near M T p v := by
 rcases h with ⟨rfl, rfl, rfl⟩ | ⟨rfl, rfl, rfl⟩ | ⟨rfl, rfl, rfl⟩
 ·exact hn
 ·exact zHx (zHx hn)
 ·exact zHx hn
theorem Cyc.ways {T : Tri3} {a b c : Pt} (h : Cyc T a b c) : (ways T).Perm [(a, b), (b, c), (c, a)] := by
 rcases h with ⟨rfl, rfl, rfl⟩ | ⟨rfl, rfl, rfl⟩ | ⟨rfl, rfl, rfl⟩
 ·exact .refl _
 ·exact List.perm_append_comm (l₁ := [(T.A, T.B)]) (l₂ := [(T.B, T.C), (T.C, T.A)])
 ·exact List.perm_append_comm (l₁ := [(T.A, T.B), (T.B, T.C)]) (l₂ := [(T.C, T.A)])
theorem Cyc.way {T : Tri3} {a b c : Pt} (h : Cyc T a b c) : (a, b) ∈ Go.Proofs.YtjkfakaehjmnbaaGreat.ways T := h.ways.mem_iff.2 (by simp)
theorem zDb {T : Tri3} {a b : Pt} (h : (a, b) ∈ ways T) : ∃ c, Cyc T a b c := by
 simp only [ways, List.mem_cons, Prod.mk.injEq, List.not_mem_nil, or_false] at h;rcases h with ⟨rfl, rfl⟩ | ⟨rfl, rfl⟩ | ⟨rfl, rfl⟩
 ·exact ⟨_, .inl ⟨rfl, rfl, rfl⟩⟩
 ·exact ⟨_, .inr (.inl ⟨rfl, rfl, rfl⟩)⟩
 ·exact ⟨_, .inr (.inr ⟨rfl, rfl, rfl⟩)⟩
def isCnr (T : Tri3) (p : Pt) : Prop := p = T.A ∨ p = T.B ∨ p = T.C
theorem cnr_cyc {T : Tri3} {p : Pt} (h : isCnr T p) : ∃ b c, Cyc T p b c := by
 rcases h with rfl | rfl | rfl
 ·exact ⟨_, _, .inl ⟨rfl, rfl, rfl⟩⟩
 ·exact ⟨_, _, .inr (.inl ⟨rfl, rfl, rfl⟩)⟩
 ·exact ⟨_, _, .inr (.inr ⟨rfl, rfl, rfl⟩)⟩
theorem Cyc.cnr {T : Tri3} {a b c : Pt} (h : Cyc T a b c) : isCnr T a := by
 rcases h with ⟨h, _⟩ | ⟨h, _⟩ | ⟨h, _⟩
 ·exact .inl h
 ·exact .inr (.inl h)
 ·exact .inr (.inr h)
theorem Cyc.cnr_iff {T : Tri3} {a b c : Pt} (h : Cyc T a b c) (p : Pt) : isCnr T p ↔ p = a ∨ p = b ∨ p = c := by
 unfold isCnr;rcases h with ⟨rfl, rfl, rfl⟩ | ⟨rfl, rfl, rfl⟩ | ⟨rfl, rfl, rfl⟩ <;> constructor <;> (rintro (h | h | h) <;> simp [h])
def hasT (T : Tri3) (p : Pt) : Prop := 0 ≤ det T.A T.B p ∧ 0 ≤ det T.B T.C p ∧ 0 ≤ det T.C T.A p
def insT (T : Tri3) (p : Pt) : Prop := 0 < det T.A T.B p ∧ 0 < det T.B T.C p ∧ 0 < det T.C T.A p
def edg (a b c p : Pt) : Prop := det a b p = 0 ∧ 0 < det b c p ∧ 0 < det c a p
theorem zIn {T : Tri3} {p : Pt} (hp : 0 < det T.A T.B T.C) (h : hasT T p) : isCnr T p ∨ insT T p ∨ ∃ a b c, Cyc T a b c ∧ edg a b c p := by
 obtain ⟨h1, h2, h3⟩ := h;have hs := zEn T.A T.B T.C p;have hp2 : 0 < det T.B T.C T.A := by rw [zB0]; exact hp
 have hp3 : 0 < det T.C T.A T.B := by rw [zB0, zB0]; exact hp
 by_cases e1 : det T.A T.B p = 0 <;> by_cases e2 : det T.B T.C p = 0 <;> by_cases e3 : det T.C T.A p = 0
 ·omega
 ·exact .inl (.inr (.inl ((corner0 p hp2).2 ⟨e2, e1⟩)))
 ·exact .inl (.inl ((corner0 p hp).2 ⟨e1, e3⟩))
 ·exact .inr (.inr ⟨_, _, _, .inl ⟨rfl, rfl, rfl⟩, e1, by omega, by omega⟩)
 ·exact .inl (.inr (.inr ((corner0 p hp3).2 ⟨e3, e2⟩)))
 ·exact .inr (.inr ⟨_, _, _, .inr (.inl ⟨rfl, rfl, rfl⟩), e2, by omega, by omega⟩)
 ·exact .inr (.inr ⟨_, _, _, .inr (.inr ⟨rfl, rfl, rfl⟩), e3, by omega, by omega⟩)
 ·exact .inr (.inl ⟨by omega, by omega, by omega⟩)
theorem near_ins {T : Tri3} {p : Pt} (h : insT T p) (v : Pt) : near 1 T p v := by
 unfold near near3;simp only [zJ3];exact ⟨.inl h.1, .inl h.2.1, .inl h.2.2⟩
theorem near_has {T : Tri3} {p : Pt} (hp : 0 < det T.A T.B T.C) (h : hasT T p) : near 1 T p ⟨T.A.x + T.B.x + T.C.x - 3 * p.x, T.A.y + T.B.y + T.C.y - 3 * p.y⟩ := by
 unfold near near3;simp only [zJ3];have e1 : crd T.A T.B ⟨T.A.x + T.B.x + T.C.x - 3 * p.x, T.A.y + T.B.y + T.C.y - 3 * p.y⟩ = det T.A T.B T.C - 3 * det T.A T.B p := by unfold crd det; grind
 have e2 : crd T.B T.C ⟨T.A.x + T.B.x + T.C.x - 3 * p.x, T.A.y + T.B.y + T.C.y - 3 * p.y⟩ = det T.A T.B T.C - 3 * det T.B T.C p := by unfold crd det; grind
 have e3 : crd T.C T.A ⟨T.A.x + T.B.x + T.C.x - 3 * p.x, T.A.y + T.B.y + T.C.y - 3 * p.y⟩ = det T.A T.B T.C - 3 * det T.C T.A p := by unfold crd det; grind
 rw [e1, e2, e3];obtain ⟨h1, h2, h3⟩ := h;omega
theorem zGu {a b c p v : Pt} (h : edg a b c p) (hv : 0 < crd a b v) : near3 1 a b c p v := by
 unfold near3;simp only [zJ3];exact ⟨.inr ⟨h.1, hv⟩, .inl h.2.1, .inl h.2.2⟩
section
variable {W H : Int} {L : List Tri3} (h : Tiles W H L)
include h
theorem Tiles.ins_one {S T : Tri3} (hS : S ∈ L) (hT : T ∈ L) {p : Pt} (h1 : insT S p) (h2 : hasT T p) : S = T :=
 h.same hS hT (M := 1) (by omega) (near_ins h1 _) (near_has (h.pos T hT) h2)
end
theorem sq_nn (x : Int) : 0 ≤ x * x := by
 rcases Int.le_total 0 x with h | h
 ·exact Int.mul_nonneg h h
 ·exact Int.mul_nonneg_of_nonpos_of_nonpos h h
theorem zFz {a b d e : Pt} (hab : a ≠ b) (h : ¬ (crd a b ⟨e.x - d.x, e.y - d.y⟩ = 0 ∧ (b.x - a.x) * (e.x - d.x) + (b.y - a.y) * (e.y - d.y) ≤ 0)) : ∃ v, 0 < crd a b v ∧ 0 < crd d e v := by
 rcases Int.lt_trichotomy (crd a b ⟨e.x - d.x, e.y - d.y⟩) 0 with k | k | k
 ·refine ⟨⟨(b.x - a.x) - (e.x - d.x), (b.y - a.y) - (e.y - d.y)⟩, ?_, ?_⟩
  ·have : crd a b ⟨(b.x - a.x) - (e.x - d.x), (b.y - a.y) - (e.y - d.y)⟩ = - crd a b ⟨e.x - d.x, e.y - d.y⟩ := by unfold crd; grind
   omega
  ·have : crd d e ⟨(b.x - a.x) - (e.x - d.x), (b.y - a.y) - (e.y - d.y)⟩ = - crd a b ⟨e.x - d.x, e.y - d.y⟩ := by unfold crd; grind
   omega
 ·refine ⟨⟨-(b.y - a.y), b.x - a.x⟩, ?_, ?_⟩
  ·have e1 : crd a b ⟨-(b.y - a.y), b.x - a.x⟩ = (b.x - a.x) * (b.x - a.x) + (b.y - a.y) * (b.y - a.y) := by unfold crd; grind
   rw [e1];have s1 := sq_nn (b.x - a.x);have s2 := sq_nn (b.y - a.y);rcases Int.lt_or_eq_of_le s1 with s | s
   ·omega
   rcases Int.lt_or_eq_of_le s2 with t | t
   ·omega
   exfalso
   apply hab;rw [Pt.eq_iff];have := Int.mul_eq_zero.1 s.symm;have := Int.mul_eq_zero.1 t.symm;omega
  ·have : crd d e ⟨-(b.y - a.y), b.x - a.x⟩ = (b.x - a.x) * (e.x - d.x) + (b.y - a.y) * (e.y - d.y) := by unfold crd; grind
   rw [this];omega
 ·refine ⟨⟨(e.x - d.x) - (b.x - a.x), (e.y - d.y) - (b.y - a.y)⟩, ?_, ?_⟩
  ·have : crd a b ⟨(e.x - d.x) - (b.x - a.x), (e.y - d.y) - (b.y - a.y)⟩ = crd a b ⟨e.x - d.x, e.y - d.y⟩ := by unfold crd; grind
   omega
  ·have : crd d e ⟨(e.x - d.x) - (b.x - a.x), (e.y - d.y) - (b.y - a.y)⟩ = crd a b ⟨e.x - d.x, e.y - d.y⟩ := by unfold crd; grind
   omega
theorem zFq {a b c : Pt} (h : 0 < det a b c) : a ≠ b := by
 rintro rfl;have : det a a c = 0 := by unfold det; grind
 omega
theorem zE0 {a b c p x : Pt} (hc : 0 < det a b c) (hx : 0 < det b a x) (h : edg a b c p) : edg b a x p := by
 obtain ⟨h1, h2, h3⟩ := h;have e1 : det a b c * det a x p = det c a p * det b a x + det a b p * det a x c := by unfold det; grind
 have e2 : det a b c * det x b p = det b c p * det b a x - det a b p * det b x c := by unfold det; grind
 rw [h1, Int.zero_mul] at e1 e2;refine ⟨by rw [zCy]; omega, ?_, ?_⟩
 ·exact (zB8 hc).1 (by rw [e1]; have := Int.mul_pos h3 hx; omega)
 ·exact (zB8 hc).1 (by rw [e2]; have := Int.mul_pos h2 hx; omega)
end Go.Proofs.YtjkfakaehjmnbaaGreat
