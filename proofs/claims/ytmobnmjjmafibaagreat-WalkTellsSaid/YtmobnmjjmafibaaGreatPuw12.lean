/- Put together: FenD, FenE, Blt6w, WlkA, WlkB, WlkC, CdtS, WlkP, WlkQ, WlkR. -/
import Derived.Test.YtmobnmjjmafibaaGreatRows
import Derived.Test.YtmobnmjjmafibaaGreatPuw4
import Derived.Test.YtmobnmjjmafibaaGreatPuw11
import Derived.Test.YtmobnmjjmafibaaGreatPuw0
import Derived.WalkKit
import Derived.WalkSpells
import Derived.WalkLawsBesides
import Derived.Laws.Externs
import Derived.Deep.QuietTactic
import Derived.BigQuiet
import Derived.Lib.Hide
import Derived.Handy
import Derived.OwnWalk
import Derived.LoopN
import Derived.RegionTactic
import Derived.Test.YtmobnmjjmafibaaGreatPuw10
import Derived.Test.YtmobnmjjmafibaaGreatPuw5
import Derived.Test.YtmobnmjjmafibaaGreatPuw6
import Derived.Test.YtmobnmjjmafibaaGreatPuw7
import Derived.Maps.RangeWalk
import Derived.Test.YtmobnmjjmafibaaGreatPuw9
set_option maxRecDepth 100000
set_option maxHeartbeats 8000000
namespace Go.Proofs.YtmobnmjjmafibaaGreat
open Go.RowKit Go.Sort
attribute [local go_sem] rOper rAt rUpon cell_set sg_i64 sg_u64 alloc_cell alloc_frozen
attribute [local go_sem 10000] pt_eql pt_neq tri_eql
attribute [local irreducible] rWalk
theorem RowAt.ne_slice {w : World} {ad : Addr} {M : List Pt} {db : Nat} {x : Option Addr} {n c : Nat} {T : TypeId} (h : RowAt cP 2 w (some ad) M) (hM : 0 < M.length) (hB : Box w db [.slice x n c] T) : ad.block ≠ db := by
 intro e;obtain ⟨ad2, A, e2, e3, hA⟩ := h.two hM;obtain rfl : ad = ad2 := Option.some.inj e2;have hb : A.block = db := by rw [← e3, zAk]; exact e
 have h1 := hA.2.1;unfold Box at hB;unfold World.cell? at h1;rw [hb, hB] at h1;simp only at h1;split at h1
 ·cases h1
 ·cases ho : A.off with
  | zero => rw [ho] at h1; simp at h1
  | succ m => rw [ho] at h1; simp at h1
theorem zIa (x y : Pt) {k : Int} (hk : k = 1 ∨ k = 2) : 0 ≤ (mkW x y k).K ∧ (mkW x y k).K ≤ 2 := by
 unfold mkW; split <;> simp; omega
theorem zI9 {E : Es} {p q : Pt} {M : List Pt} (h : PartsL E p q M) (hp : p ∈ onE E p q) : 0 < M.length ∧ M.length ≤ E.length := by
 refine ⟨List.length_pos_of_mem ((h.1 p).2 hp), ?_⟩;have nd : ∀ {L : List Pt}, Rising cmpP L → L.Nodup := fun h => h.imp fun {x y} h e => by subst e; have := (zC9 (p := x) (q := x)).2 rfl; omega
 have hn : M.Nodup := by
  rcases h.2 with h | h
  ·exact nd h.1
  ·exact (List.reverse_perm M).nodup_iff.1 (nd h.1)
 exact Nat.le_trans (zCz M (onE E p q) hn (fun x hx => (h.1 x).1 hx)) (zJj E p q)
theorem raddw_ok_1 (mb b db : Nat) (E : Es) (L : List Tri3) (hE : E.length ≤ 90000) (g : Good E L) (v : Value) (D : List Wl) (hD : D.length ≤ 100000) (hgk : ∀ x ∈ D, 0 ≤ x.K ∧ x.K ≤ 2) (p q : Pt) (k : Int) (h1 : (k != 1) = false) (e0 : peqI p.x p.y q.x q.y = false) (e1 : vld p = true) (e2 : vld q = true) (s1 : starE p E ≠ []) (s2 : starE q E ≠ []) (w : World) (Bm : Box w mb [.map (some b)] 41) (Hm : HoldsMap eW eT okW w b E) (Dw : DocAt w db v D) (hmd : mb ≠ db) :
    Calls Tryz.prog 99 #[.pointer (some ⟨mb, 0, none⟩), .pointer (some ⟨db, 0, none⟩), .agg #[.int .i64 p.x, .int .i64 p.y], .agg #[.int .i64 q.x, .int .i64 q.y], .int .i64 k] w (AddWPost b db E D p q k w) := by
 have HPE : ∀ {M : List Pt}, PartsL E p q M → p ∈ onE E p q := fun {M} _ => by
  obtain ⟨T, hT⟩ := List.exists_mem_of_ne_nil _ s1;unfold starE at hT;obtain ⟨e, he, _⟩ := List.mem_map.1 hT;obtain ⟨he, hp⟩ := List.mem_filter.1 he;have hp : e.1.1 = p := by simpa using hp
  unfold onE froms;refine List.mem_filter.2 ⟨List.mem_map.2 ⟨e, he, hp⟩, ?_⟩;unfold onR btw;have z : det p q p = 0 := by unfold det; grind
  have k1 : min p.x q.x ≤ p.x ∧ p.x ≤ max p.x q.x := by omega
  have k2 : min p.y q.y ≤ p.y ∧ p.y ≤ max p.y q.y := by omega
  rw [e1, e2, z, decide_eq_true k1, decide_eq_true k2]; rfl
 have cp := fun w0 B1 H1 => rparts_ok mb b E p q (by omega) e0 e1 e2 s1 s2 w0 B1 H1
 change ∀ (w0 : World) B1 H1, Calls _ _ _ _ (PartsPost E p q w0) at cp
 have HG := Lib.hid (And.intro e0 (And.intro s1 s2));clear e0 s1 s2
 go_enter Tryz.func99, Tryz.ntmps99
 go_wp2_with fail;refine zA1 fun W1 hW => ?_;obtain ⟨Bp, Bq, hw⟩ := N2 hW;clear hW;refine (cp _ (Bm.ee hw) (Hm.ee hw)).mono ?_;rintro e w2 ⟨M, aM, cM, rfl, hrM, hPM, hb⟩;obtain ⟨Bp, Bq, hw, -⟩ := X2 Bp Bq hw hb;clear hb;have HPM := Lib.hid hPM;have hMl := zI9 hPM (HPE hPM);have hM0 := Lib.hid hMl.1;have hM1 := Lib.hid (show M.length ≤ 90000 from Nat.le_trans hMl.2 hE);have S2 := Dw.ee hw;clear hMl hPM;obtain ⟨n, hn⟩ : ∃ n, M.length = n := ⟨_, rfl⟩;have HN := Lib.hid hn;rw [hn] at hM0 hM1;rw [hn];clear hn;have HC0 := Lib.hid (show ∀ (j : Nat) (h : j + 1 < M.length), j < 0 → clashD D M[j] M[j + 1] = 0 from fun j h h0 => by omega);clear cp Bp Bq;go_wp2
 go_loopw [13] (fun v13 wr => ∃ i : Nat, v13 = .int .i64 i ∧ i ≤ n ∧ Hid (∀ (j : Nat) (h : j + 1 < M.length), j < i → clashD D M[j] M[j + 1] = 0) ∧ RowAt cP 2 wr aM M ∧ DocAt wr db v D ∧ Below w.heap.size w wr) (fun v13 _ => n - (intOf v13).toNat)
 case atStart => exact ⟨0, rfl, Nat.zero_le _, HC0, hrM, S2, hw⟩
 case round =>
  clear HC0 hrM S2 hw;obtain ⟨i, rfl, hi, HC, hrM, S2, hw⟩ := hrel;have hn9 : n ≤ 90000 := hM1.out;by_cases hlt : i + 1 < n
  case neg =>
   have HCL := Lib.hid (show calm D M from fun j h => HC.out j h (by rw [HN.out] at h; omega));have q0 : decide ((i : Int) + 1 < (n : Int)) = false := by simp; omega
   have hiw : i ≤ 90000 := by omega
   have Hb := Hm.ee hw;have F0 : Frm w wr (fun x => x = b ∨ x = db) := Frm.of_below hw;have HG0 := Lib.hid (show ∃ Li, Good E Li ∧ Li.length = L.length from ⟨L, g, rfl⟩);have HK0 := Lib.hid hgk;have HL0 := Lib.hid (show D.length ≤ D.length + 0 from Nat.le_refl _);have HS0 := Lib.hid (show ∀ E2 D2, addsW k (M.drop 0) E D E2 D2 → addsW k M E D E2 D2 from fun E2 D2 h => by rw [List.drop_zero] at h; exact h);have HDL := Lib.hid hD;have HEL := Lib.hid (show 3 * L.length ≤ 90000 by rw [← g.len]; exact hE);clear HC hw g hgk hD hlt;go_wp2
   go_loopw [15] (fun v15 wr => ∃ (i : Nat) (Ei : Es) (Di : List Wl) (vi : Value), v15 = .int .i64 i ∧ i ≤ n ∧ HoldsMap eW eT okW wr b Ei ∧ Hid (∃ Li, Good Ei Li ∧ Li.length = L.length) ∧ DocAt wr db vi Di ∧ Hid (∀ x ∈ Di, 0 ≤ x.K ∧ x.K ≤ 2) ∧ Hid (Di.length ≤ D.length + i) ∧ Hid (∀ E2 D2, addsW k (M.drop i) Ei Di E2 D2 → addsW k M E D E2 D2) ∧ RowAt cP 2 wr aM M ∧ Frm w wr (fun x => x = b ∨ x = db)) (fun v15 _ => n - (intOf v15).toNat)
   case atStart => exact ⟨0, E, D, _, rfl, Nat.zero_le _, Hb, HG0, S2, HK0, HL0, HS0, hrM, F0⟩
   case round =>
    clear Hb HG0 S2 HK0 HL0 HS0 hrM F0 q0;obtain ⟨i, Ei, Di, vi, rfl, hi, Hb, HGi, Si, HKi, HLi, HSi, hrM, Fi⟩ := hrel;by_cases hlt : i + 1 < n
    case neg =>
     have HR := Lib.hid (show AddWR E D p q k 0 Ei Di from by
      have hlast : addsW k (M.drop i) Ei Di Ei Di := by
       have hl : (M.drop i).length ≤ 1 := by rw [List.length_drop, HN.out]; omega
       match hm : M.drop i, hl with
       | [], _ => exact ⟨rfl, rfl⟩
       | [_], _ => exact ⟨rfl, rfl⟩
       | _ :: _ :: _, hl => simp at hl
      obtain ⟨f0, f1, f2⟩ := HG.out;exact .inr ⟨rfl, .inl (by simpa using h1), (fun e => by rw [e, zBi.2 rfl] at f0; cases f0), e1, e2, f1, f2, M, HPM.out, HCL.out, HSi.out _ _ hlast⟩)
     have q0 : decide ((i : Int) + 1 < (n : Int)) = false := by simp; omega
     have hiw : i ≤ 90000 := by omega
     clear hlt;go_wp2;refine bodyPost_ret (v := .int .i64 0) (by simp [results, Tryz.results99, go_sem]) rfl ?_;exact ⟨0, Ei, Di, vi, rfl, HR.out, Hb, Si, Fi⟩
    case pos =>
     have q0 : (i : Int) + 1 < (n : Int) := by omega
     have q1 : (i : Int) < (n : Int) := by omega
     have hi1 : i < M.length := by rw [HN.out]; omega
     have hi2 : i + 1 < M.length := by rw [HN.out]; omega
     obtain ⟨ad, A, ea, eA, hA⟩ := hrM.two hi1;obtain ⟨ad2, A2, ea2, eA2, hA2⟩ := hrM.two hi2;have HDR := Lib.hid (show M.drop i = M[i] :: M[i + 1] :: M.drop (i + 2) ∧ M.drop (i + 1) = M[i + 1] :: M.drop (i + 2) from ⟨by rw [List.drop_eq_getElem_cons hi1, List.drop_eq_getElem_cons hi2], List.drop_eq_getElem_cons hi2⟩);obtain ⟨x, hx⟩ : ∃ x, M[i] = x := ⟨_, rfl⟩;obtain ⟨y, hy⟩ : ∃ y, M[i + 1] = y := ⟨_, rfl⟩;rw [hx] at hA HDR;rw [hy] at hA2 HDR;have HX1 := Lib.hid hx;have HY1 := Lib.hid hy;clear hx hy;rw [ea] at ea2;obtain rfl : ad = ad2 := Option.some.inj ea2;subst ea;obtain ⟨i1, hj1⟩ : ∃ i1, i1 = i + 1 := ⟨_, rfl⟩;rw [← hj1] at eA2;have q2 : (i1 : Int) < (n : Int) := by omega
     have HLT := Lib.hid hlt;have hq1 : IntKind.i64.wrap ((i : Int) + 1) = (i1 : Int) := by rw [IntKind.wrap_i64]; omega
     replace hj1 := Lib.hid hj1;obtain ⟨s0, s1⟩ := hA.cells;obtain ⟨s2, s3⟩ := hA2.cells;have hn9 : n ≤ 90000 := hM1.out;clear ea2;go_wp2_with fail;refine wrt 10 (by kernel_rfl) (by kernel_rfl) ?_;simp only [tK1, tK0, dP1, dP0];repeat (first | (refine zA0 (Eq.refl false) ?_; simp only [Act.put, sT2, sT1, sT0]) | (refine rWalk_step (fun K hK => ?_); go_simp; refine hK _ ?_; clear hK K))
     refine rWalk_nil ?_;intro w4 hb;clear s0 s1 s2 s3;have hmb : mb ≠ b := Bm.ne_map Hm;have Bm4 := (Fi.box Bm (fun k => by rcases k with k | k; exact hmb k; exact hmd k)).ee hb;have Hb4 := Hb.ee hb;have Si4 := Si.ee hb;have r4 := hrM.ee hb;have F4 : Frm w w4 (fun x => x = b ∨ x = db) := Fi.trans (Frm.of_below hb);obtain ⟨Li, gi, hli⟩ := HGi.out;have cf := rforce_any mb b Ei Li (by rw [gi.len, hli]; have := HEL.out; omega) gi x y w4 Bm4 Hb4;have HGN := Lib.hid (fun Q0 => show ∃ L', Good (forceR x y capN Ei Q0).1 L' ∧ L'.length = L.length from by
      obtain ⟨L2, g2, h2⟩ := zH8 capN (a := x) (b := y) (Q := Q0) gi;exact ⟨L2, g2, h2.trans hli⟩)
     clear gi hli HGi Hb Si hrM Fi Bm4 hA hA2 hb hmb;go_wp2_with fail;refine cf.mono ?_;rintro e w5 ⟨rfl, Q0, hQ0, hg5, H5⟩;have S5 := Si4.turn Hb4 hg5;have r5 := r4.turn cP_ne Hb4 hg5;have F5 : Frm w w5 (fun x => x = b ∨ x = db) := F4.trans (Frm.of_grown hg5 (fun g e => .inl (Option.some.inj e).symm));have HGN := Lib.hid (HGN.out Q0);have HQ := Lib.hid hQ0;have cw := zE7 x y k;have HW := Lib.hid (zIa x y (.inl (by simpa using h1)));have HST := Lib.hid (fun j (hj : PutAt Di (mkW x y k) j) => show ∀ E2 D2, addsW k (M.drop (i + 1)) (forceR x y capN Ei Q0).1 (insW Di (mkW x y k) j) E2 D2 → addsW k M E D E2 D2 from fun E2 D2 h => HSi.out E2 D2 (by
      obtain ⟨d1, d2⟩ := HDR.out;rw [d2] at h;rw [d1];exact ⟨Q0, j, HQ.out, hj, h⟩))
     clear cf hQ0 Hb4 Si4 r4 F4 hg5 HSi;generalize (forceR x y capN Ei Q0).1 = E5 at *
     generalize mkW x y k = Z at *
     generalize mkOk x y k = zk at *
     obtain ⟨ad3, A3, ea3, eA3, hA3⟩ := r5.two hi1;obtain ⟨ad4, A4, ea4, eA4, hA4⟩ := r5.two hi2;rw [HX1.out] at hA3;rw [HY1.out] at hA4;obtain rfl : ad = ad3 := Option.some.inj ea3;obtain rfl : ad = ad4 := Option.some.inj ea4;obtain rfl : A3 = A := by rw [← eA3, eA]
     obtain rfl : A4 = A2 := by rw [← eA4, ← eA2, hj1.out]
     clear ea3 ea4 eA3 eA4 HX1 HY1 hi1 hi2 HDR;obtain ⟨s0, s1⟩ := hA3.cells;obtain ⟨s2, s3⟩ := hA4.cells;have hw : Below w5.heap.size w5 w5 := Below.refl _ _;have hn9 : n ≤ 90000 := hM1.out;go_wp2_with fail;refine zA5 14 16 85 [.int .i64 Z.A.x, .int .i64 Z.A.y, .int .i64 Z.B.x, .int .i64 Z.B.y, .int .i64 Z.K] (zs := [.int .i64 0, .int .i64 0, .int .i64 0, .int .i64 0, .int .i64 0]) (eff := eff5 (.int .i64 Z.A.x) (.int .i64 Z.A.y) (.int .i64 Z.B.x) (.int .i64 Z.B.y) (.int .i64 Z.K)) zDs rfl rfl rfl rfl rfl rfl rfl (by simp) (fun ρ W => by simp [execOp, go_sem]; rfl) (by kernel_rfl) (by as_aux_lemma => kernel_rfl) (C := fun w' => ∃ p : Regrown, w' = grow (redrawn w5 p.d) p.os) rgB ?_ (fun ρ W b e1 e2 hB => by obtain ⟨x, y, _, _⟩ := hB.f; simp [execOp, go_sem, e1, e2, x, y, eff5]);simp only [tK1, tK0, dP1, dP0];repeat (first | (refine zA0 (Eq.refl false) ?_; simp only [Act.put, sT2, sT1, sT0]) | (refine rWalk_step (fun K hK => ?_); go_simp; first | (refine hK _ ?_; clear hK K) | (apply Exists.intro; refine ⟨fun _ => ?_, hK _ ?_⟩; (first | with_reducible exact toExt cw _); clear hK K)))
     refine rWalk_nil ⟨rfl, ?_⟩;intro w41 bkz hb h1b h2b Bz;have hw0z := hw.size;replace hw := upB hw hb;have fz := h1b;have hwz : w5.heap.size ≤ w5.heap.size := hw0z;have S6 := S5.ee hb;have H6 := H5.ee hb;have r6 := r5.ee hb;have F6 : Frm w w41 (fun x => x = b ∨ x = db) := F5.trans (Frm.of_below hb);clear s0 s1 s2 s3 S5 H5 r5 F5 hA3 hA4 cw;clear hb h1b h2b hw0z;simp only [Act.put];have Fz := Bz.f;have cp := zCi db vi Di Z (by have := HLi.out; have := HDL.out; omega) HKi.out HW.out w41 S6;go_wp2_with fail;refine cp.mono ?_;rintro e w60 ⟨j, v6, rfl, hj, S7, f7, _⟩;have hw6 := hw.size;have hdb : db < w41.heap.size := S6.box.lt;have H7 : HoldsMap eW eT okW w60 b E5 := H6.kept f7.grown (fun e => S6.box.ne_map H6 (Option.some.inj e).symm);obtain ⟨a6, c6, e6, _, _⟩ := S6.rd;have hMp : 0 < M.length := by have := HN.out; have := hM0.out; omega
     have hbd : ad.block ≠ db := r6.ne_slice (x := a6) (n := Di.length) (c := c6) (T := 103) hMp (by have := S6.box; rw [e6] at this; exact this);have r7 : RowAt cP 2 w60 (some ad) M := r6.kept f7.grown (fun ad' e k => hbd (by cases e; exact Option.some.inj k));have F7 : Frm w w60 (fun x => x = b ∨ x = db) := F6.trans2 f7 (fun k hk _ => .inr hk);have HK7 := Lib.hid (show ∀ x ∈ Di.take j ++ Z :: Di.drop j, 0 ≤ x.K ∧ x.K ≤ 2 from fun x hx => by
      rcases List.mem_append.1 hx with hx | hx
      ·exact HKi.out x (List.mem_of_mem_take hx)
      ·rcases List.mem_cons.1 hx with rfl | hx
       ·exact HW.out
       ·exact HKi.out x (List.mem_of_mem_drop hx))
     have HL7 := Lib.hid (show (Di.take j ++ Z :: Di.drop j).length ≤ D.length + (i + 1) by
      have e := (zCk (L := Di) (X := Z) j).length_eq;rw [List.length_cons] at e;have := HLi.out;omega)
     have HS7 := Lib.hid (HST.out j hj);clear cp f7 S6 H6 r6 F6 hbd hMp hj HST e6 hw hw6 hdb;go_wp2
     go_roundw
     case rel => exact ⟨i + 1, E5, _, v6, by have hjj := hj1.out; go_num, by have := HLT.out; omega, H7, HGN, S7, HK7, HL7, HS7, r7, F7⟩
     case measure => have := HLT.out; have hjj := hj1.out; simp [intOf]; omega
  case pos =>
   have q0 : (i : Int) + 1 < (n : Int) := by omega
   have q1 : (i : Int) < (n : Int) := by omega
   have hi1 : i < M.length := by rw [HN.out]; omega
   have hi2 : i + 1 < M.length := by rw [HN.out]; omega
   obtain ⟨ad, A, ea, eA, hA⟩ := hrM.two hi1;obtain ⟨ad2, A2, ea2, eA2, hA2⟩ := hrM.two hi2;have HX := Lib.hid (fun (k0 : clashD D M[i] M[i + 1] = 0) => show ∀ (j : Nat) (h : j + 1 < M.length), j < i + 1 → clashD D M[j] M[j + 1] = 0 from fun j h h0 => by
    rcases Nat.lt_or_eq_of_le (Nat.le_of_lt_succ h0) with h1 | h1
    ·exact HC.out j h h1
    ·subst h1; exact k0)
   generalize M[i] = x at *
   generalize M[i + 1] = y at *
   rw [ea] at ea2;obtain rfl : ad = ad2 := Option.some.inj ea2;subst ea;obtain ⟨a1, c1, rfl, Dr, _⟩ := S2.rd;have cc : ∀ d os, Calls Tryz.prog 133 #[.pointer (some ⟨db, 0, none⟩), .agg #[.int .i64 x.x, .int .i64 x.y], .agg #[.int .i64 y.x, .int .i64 y.y]] (grow (redrawn wr d) os) fun e w' => e = .returned (.int .i64 (clashD D x y)) ∧ Below (grow (redrawn wr d) os).heap.size (grow (redrawn wr d) os) w' := fun d os => rclash_any db a1 c1 D.length D x y _ (Dr.ext (below_regrown wr d os) rfl);obtain ⟨i1, hj1⟩ : ∃ i1, i1 = i + 1 := ⟨_, rfl⟩;rw [← hj1] at eA2;have q2 : (i1 : Int) < (n : Int) := by omega
   have hq1 : IntKind.i64.wrap ((i : Int) + 1) = (i1 : Int) := by rw [IntKind.wrap_i64]; omega
   replace hj1 := Lib.hid hj1;obtain ⟨s0, s1⟩ := hA.cells;obtain ⟨s2, s3⟩ := hA2.cells;clear ea2 hA hA2;go_wp2_with fail;refine wrt 11 (by kernel_rfl) (by kernel_rfl) ?_;simp only [tK1, tK0, dP1, dP0];repeat (first | (refine zA0 (Eq.refl false) ?_; simp only [Act.put, sT2, sT1, sT0]) | (refine rWalk_step (fun K hK => ?_); go_simp; first | (refine hK _ ?_; clear hK K) | (apply Exists.intro; refine ⟨fun _ => ?_, hK _ ?_⟩; (first | with_reducible exact toExtD cc _ _); clear hK K)))
   refine rWalk_nil ?_;intro w4 hb;clear s0 s1 s2 s3 cc Dr;have r4 := hrM.ee hb;have S4 := S2.ee hb;have hw4 := (upB hw hb);clear hb hrM S2 hw;by_cases hc : clashD D x y = 0
   ·have HX := Lib.hid (HX.out hc);rw [hc];go_wp2
    go_roundw
    case rel => exact ⟨i + 1, by have hjj := hj1.out; go_num, by omega, HX, r4, S4, hw4⟩
    case measure => have hjj := hj1.out; simp [intOf]; omega
   ·have hc1 : (clashD D x y != 0) = true := by simp; exact hc
    have HC0 := Lib.hid hc;generalize clashD D x y = r at *
    clear hc HX;go_wp2;refine bodyPost_ret (v := .int .i64 r) (by simp [results, Tryz.results99, go_sem]) rfl ?_;exact ⟨r, E, D, _, rfl, .inl ⟨HC0.out, rfl, rfl⟩, Hm.ee hw4, S4, Frm.of_below hw4⟩
theorem zHl {W H : Int} (hW : W < 16777216) (hH : H < 16777216) {k : Int} (hk : k = 1 ∨ k = 2) : ∀ (M : List Pt) {E E2 : Es} {D D2 : List Wl} {L : List Tri3}, Good E L → Tiles W H L → (∀ x ∈ D, 0 ≤ x.K ∧ x.K ≤ 2) → addsW k M E D E2 D2 → ∃ L2, Good E2 L2 ∧ Tiles W H L2 ∧ L2.length = L.length ∧ (∀ q, someC L2 q ↔ someC L q) ∧ (∀ x ∈ D2, 0 ≤ x.K ∧ x.K ≤ 2) ∧ D2.length ≤ D.length + M.length
 | [], E, E2, D, D2, L, g, t, hD, h => by obtain ⟨rfl, rfl⟩ := h; exact ⟨L, g, t, rfl, fun _ => Iff.rfl, hD, by simp⟩
 | [_], E, E2, D, D2, L, g, t, hD, h => by obtain ⟨rfl, rfl⟩ := h; exact ⟨L, g, t, rfl, fun _ => Iff.rfl, hD, by simp⟩
 | x :: y :: M, E, E2, D, D2, L, g, t, hD, h => by
  obtain ⟨Q0, j, hQ, hj, h⟩ := h;obtain ⟨L1, g1, t1, k1⟩ := zBz hW hH capN (a := x) (b := y) (Q := Q0) g t (fun z hz => (zF1 (hQ.mem_iff.1 hz)).2.2.1);have hD1 : ∀ z ∈ insW D (mkW x y k) j, 0 ≤ z.K ∧ z.K ≤ 2 := fun z hz => by
   unfold insW at hz;rcases List.mem_append.1 hz with hz | hz
   ·exact hD z (List.mem_of_mem_take hz)
   ·rcases List.mem_cons.1 hz with rfl | hz
    ·exact zIa x y hk
    ·exact hD z (List.mem_of_mem_drop hz)
  obtain ⟨L2, g2, t2, l2, c2, d2, n2⟩ := zHl hW hH hk (y :: M) g1 t1 hD1 h;have e : (insW D (mkW x y k) j).length = D.length + 1 := by unfold insW; rw [(zCk (L := D) (X := mkW x y k) j).length_eq, List.length_cons]
  exact ⟨L2, g2, t2, l2.trans k1.len, fun q => (c2 q).trans (k1.cnr q), d2, by rw [e] at n2; simp at n2 ⊢; omega⟩
theorem raddw_any (mb b db : Nat) (E : Es) (L : List Tri3) (hE : E.length ≤ 90000) (g : Good E L) (v : Value) (D : List Wl) (hD : D.length ≤ 100000) (hgk : ∀ x ∈ D, 0 ≤ x.K ∧ x.K ≤ 2) (p q : Pt) (w : World) (Bm : Box w mb [.map (some b)] 41) (Hm : HoldsMap eW eT okW w b E) (Dw : DocAt w db v D) (hmd : mb ≠ db) :
    Calls Tryz.prog 99 #[.pointer (some ⟨mb, 0, none⟩), .pointer (some ⟨db, 0, none⟩), .agg #[.int .i64 p.x, .int .i64 p.y], .agg #[.int .i64 q.x, .int .i64 q.y], .int .i64 1] w (AddWPost b db E D p q 1 w) := by
 have no : ∀ {r : Int} {e : Ending} {w' : World}, r ≠ 0 → e = .returned (.int .i64 r) ∧ Below w.heap.size w w' → AddWPost b db E D p q 1 w e w' := fun hr ⟨k1, k2⟩ => ⟨_, E, D, v, k1, .inl ⟨hr, rfl, rfl⟩, Hm.ee k2, Dw.ee k2, Frm.of_below k2⟩;have h1 : ((1 : Int) != 1) = false := rfl;cases e0 : peqI p.x p.y q.x q.y with
 | true => exact (raddw_b0_1 mb b db E p q 1 h1 e0 w Bm Hm).mono fun e w' h => no (by decide) h
 | false =>
  cases e1 : vld p with
  | false => exact (raddw_b1_1 mb b db E p q 1 h1 e0 e1 w Bm Hm).mono fun e w' h => no (by decide) h
  | true =>
   cases e2 : vld q with
   | false => exact (raddw_b2_1 mb b db E p q 1 h1 e0 e1 e2 w Bm Hm).mono fun e w' h => no (by decide) h
   | true =>
    by_cases s1 : starE p E = []
    ·exact (raddw_n1_1 mb b db E p q 1 h1 (by omega) e0 e1 e2 s1 w Bm Hm).mono fun e w' h => no (by decide) h
    ·by_cases s2 : starE q E = []
     ·exact (raddw_n2_1 mb b db E p q 1 h1 (by omega) e0 e1 e2 s1 s2 w Bm Hm).mono fun e w' h => no (by decide) h
     ·exact raddw_ok_1 mb b db E L hE g v D hD hgk p q 1 h1 e0 e1 e2 s1 s2 w Bm Hm Dw hmd
def CAddWPost (cb mb b db : Nat) (W H : Int) (E : Es) (L : List Tri3) (D : List Wl) (p q : Pt) (w : World) (e : Ending) (w' : World) : Prop :=
 ∃ r v' E1 E' L' D', e = .returned (.int .i64 r) ∧ CdtAt w' cb mb b db v' W H E' D' ∧ CInv W H E' L' D' ∧ AddWR E D p q 1 r E1 D' ∧ (r ≠ 0 → E' = E) ∧ (r = 0 → ∃ L1, Good E1 L1 ∧ Tiles W H L1 ∧ Kept (wll D') L1 L') ∧ (∀ x, someC L' x ↔ someC L x) ∧ L'.length = L.length ∧ D'.length ≤ D.length + 3 * L.length ∧ Frm w w' (fun k => k = b ∨ k = db)
theorem onE_first {E : Es} {p q : Pt} (s1 : starE p E ≠ []) (e1 : vld p = true) (e2 : vld q = true) : p ∈ onE E p q := by
 obtain ⟨T, hT⟩ := List.exists_mem_of_ne_nil _ s1;unfold starE at hT;obtain ⟨e, he, _⟩ := List.mem_map.1 hT;obtain ⟨he, hp⟩ := List.mem_filter.1 he;have hp : e.1.1 = p := by simpa using hp
 unfold onE froms;refine List.mem_filter.2 ⟨List.mem_map.2 ⟨e, he, hp⟩, ?_⟩;unfold onR btw;have z : det p q p = 0 := by unfold det; grind
 have k1 : min p.x q.x ≤ p.x ∧ p.x ≤ max p.x q.x := by omega
 have k2 : min p.y q.y ≤ p.y ∧ p.y ≤ max p.y q.y := by omega
 rw [e1, e2, z, decide_eq_true k1, decide_eq_true k2]; rfl
theorem rcaddw_any (cb mb b db : Nat) (v : Value) (W H : Int) (hW : W < 16777216) (hH : H < 16777216) (E : Es) (L : List Tri3) (D : List Wl) (hI : CInv W H E L D) (hL : L.length ≤ 20000) (hD : D.length ≤ 20000) (p q : Pt) (w : World) (S : CdtAt w cb mb b db v W H E D) :
    Calls Tryz.prog 52 #[.pointer (some ⟨cb, 0, none⟩), .agg #[.int .i64 p.x, .int .i64 p.y], .agg #[.int .i64 q.x, .int .i64 q.y], .int .i64 1] w (CAddWPost cb mb b db W H E L D p q w) := by
 have hE : E.length ≤ 90000 := by rw [hI.good.len]; omega
 have ca := fun w0 B1 H1 D1 => raddw_any mb b db E L hE hI.good v D (by omega) hI.kinds p q w0 B1 H1 D1 S.mdb
 change ∀ (w0 : World) B1 H1 D1, Calls _ _ _ _ (AddWPost b db E D p q 1 w0) at ca
 have HI := Lib.hid hI;have HL := Lib.hid hL;clear hI hE hL hD
 go_enter Tryz.func52, Tryz.ntmps52
 go_wp2_with fail;refine zA3 fun w1 hW' => ?_;have Bp : Box w1 w.heap.size [.int .i64 p.x, .int .i64 p.y] 30 := by rw [hW']; exact (Box.new rfl).old _
 have Bq : Box w1 (w.heap.size + 1) [.int .i64 q.x, .int .i64 q.y] 30 := by rw [hW']; exact Box.new (by simp)
 have hw : Below w.heap.size w w1 := by rw [hW']; go_grown
 clear hW';have S1 := S.ee hw;have g1 := Bp.cells;have g3 := Bq.cells;have g2 := S1.box.cells;refine wrt 11 (by kernel_rfl) (by kernel_rfl) ?_;simp only [tK1, tK0, dP1, dP0];repeat (first | (refine zA0 (Eq.refl false) ?_; simp only [Act.put, sT2, sT1, sT0]) | (refine rWalk_step (fun K hK => ?_); go_simp; refine hK _ ?_; clear hK K))
 refine rWalk_nil ?_;intro w2 hb;clear g1 g2 g3;have hw2 := (upB hw hb);clear hb Bp Bq S1 hw;go_wp2_with fail;have S2 := S.ee hw2;refine (ca _ S2.mesh S2.map S2.doc).mono ?_;rintro e w3 ⟨r, E1, D1, v1, rfl, hR, H3, D3, f3⟩;have nb : ∀ {x : Nat} {cs : List Value} {T : TypeId}, Box w2 x cs T → x ≠ b := fun h => h.ne_map S2.map;have S3 : CdtAt w3 cb mb b db v1 W H E1 D1 := ⟨f3.box S2.box (fun k => by rcases k with k | k; exact nb S2.box k; exact S.cdb k), f3.box S2.mesh (fun k => by rcases k with k | k; exact nb S2.mesh k; exact S.mdb k), H3, D3, S.cdb, S.mdb⟩;have F3 : Frm w w3 (fun k => k = b ∨ k = db) := (Frm.of_below hw2).trans f3;have HR := Lib.hid hR;clear nb ca H3 D3 hR f3 S2 hw2;by_cases hr : r = 0
 ·subst hr;obtain ⟨L1, g1', t1', l1, c1, d1, n1⟩ : ∃ L2, Good E1 L2 ∧ Tiles W H L2 ∧ L2.length = L.length ∧ (∀ q, someC L2 q ↔ someC L q) ∧ (∀ x ∈ D1, 0 ≤ x.K ∧ x.K ≤ 2) ∧ D1.length ≤ D.length + 3 * L.length := by
   rcases HR.out with ⟨k, _⟩ | ⟨_, hk, _, vp, vq, s1, _, M, hM, _, ha⟩
   ·exact absurd rfl k
   ·obtain ⟨L2, x1, x2, x3, x4, x5, x6⟩ := zHl hW hH hk M HI.out.good HI.out.fix.tiles HI.out.kinds ha;have := (zI9 hM (onE_first s1 vp vq)).2;rw [HI.out.good.len] at this;exact ⟨L2, x1, x2, x3, x4, x5, by omega⟩
  have HK := Lib.hid (show Good E1 L1 ∧ Tiles W H L1 ∧ L1.length = L.length ∧ (∀ q, someC L1 q ↔ someC L q) ∧ (∀ x ∈ D1, 0 ≤ x.K ∧ x.K ≤ 2) ∧ D1.length ≤ D.length + 3 * L.length from ⟨g1', t1', l1, c1, d1, n1⟩);have cr := fun a0 c n w0 B1 H1 R1 => zDx mb b db a0 c n E1 L1 D1 W H hW hH (by have := HL.out; omega) g1' t1' w0 B1 H1 R1;clear g1' t1' l1 c1 d1 n1;have g2 := S3.box.cells;go_wp2_with fail;refine wrt 8 (by kernel_rfl) (by kernel_rfl) ?_;simp only [tK1, tK0, dP1, dP0];repeat (first | (refine zA0 (Eq.refl false) ?_; simp only [Act.put, sT2, sT1, sT0]) | (refine rWalk_step (fun K hK => ?_); go_simp; refine hK _ ?_; clear hK K))
  refine rWalk_nil ?_;intro w4 hb;clear g2;have S4 := S3.ee hb;have F4 := F3.trans (Frm.of_below hb);clear hb S3 F3;obtain ⟨a4, c4, rfl, R4, _⟩ := S4.doc.rd;go_wp2_with fail;refine (cr a4 c4 D1.length _ S4.mesh S4.map R4).mono ?_;rintro e w5 ⟨rfl, E5, L5, hg5, H5, hS5, hF5⟩;have S5 : CdtAt w5 cb mb b db (.slice a4 D1.length c4) W H E5 D1 := ⟨S4.box.turn S4.map hg5, S4.mesh.turn S4.map hg5, H5, S4.doc.turn S4.map hg5, S4.cdb, S4.mdb⟩;have F5 : Frm w w5 (fun k => k = b ∨ k = db) := F4.trans (Frm.of_grown hg5 (fun g e => .inl (Option.some.inj e).symm));clear cr R4 hg5 H5 S4 F4;go_wp2
  go_ret
  obtain ⟨x1, x2, x3, x4, x5, x6⟩ := HK.out;exact ⟨0, _, E1, E5, L5, D1, rfl, S5, ⟨hS5.good, hF5, x5⟩, HR.out, fun h => absurd rfl h, fun _ => ⟨L1, x1, x2, hS5.kept⟩, fun y => (hS5.kept.cnr y).trans (x4 y), hS5.kept.len.trans x3, x6, F5⟩
 ·have hr1 : (r == 0) = false := by simp; exact hr
  obtain ⟨rfl, rfl⟩ : E1 = E ∧ D1 = D := by
   rcases HR.out with ⟨_, k1, k2⟩ | ⟨k, _⟩
   ·exact ⟨k1, k2⟩
   ·exact absurd k hr
  have HR2 := Lib.hid hr;clear hr;go_wp2;refine bodyPost_ret (v := .int .i64 r) (by simp [results, Tryz.results52, go_sem]) rfl ?_;exact ⟨r, v1, E1, E1, L, D1, rfl, S3, HI.out, HR.out, fun _ => rfl, fun h => absurd h HR2.out, fun _ => Iff.rfl, rfl, by omega, F3⟩
def Built6wPost (s : Int) (P : List Int) (w : World) (e : Ending) (w' : World) : Prop :=
 ∃ m2 b2 cb mb b db v E2 E L D, e = .returned (.tuple #[.pointer (some ⟨m2, 0, none⟩), .pointer (some ⟨cb, 0, none⟩)]) ∧ Box w' m2 [.map (some b2)] 89 ∧ HoldsMap eW eT okW w' b2 E2 ∧ Good E2 L ∧
  CdtAt w' cb mb b db v s s E D ∧ CInv s s E L D ∧ (∀ q, someC L q ↔ PutPt s P q) ∧ L.length ≤ 2 + 2 * P.length ∧ Below w.heap.size w w' ∧ w.heap.size ≤ m2 ∧ w.heap.size ≤ b2 ∧ m2 ≠ b ∧ m2 ≠ db ∧ b2 ≠ b ∧ b2 ≠ db
theorem built6w_any (s : Int) (hs : 0 < s) (hs2 : s ≤ 60) (a0 a1 : Option Addr) (n m0 c0 c1 : Nat) (P : List Int) (hP : Hid (P.length = n)) (hn : n ≤ 30) (Q : List Pt) (hQ : Hid (Q.length = m0)) (hm0 : m0 ≤ 30) (w : World) (h0 : RowAt cI 1 w a0 P) (hq0 : RowAt cP 2 w a1 Q) :
    Calls Tryz.prog 13 #[.int .i64 s, .slice a0 n c0, .slice a1 m0 c1] w (Built6wPost s P w) := by
 have cn := zFf s s hs hs (by omega) (by omega);have csp := fun x => zG2 s x hs hs2
 go_enter Tryz.func13, Tryz.ntmps13
 go_wp2_with fail;refine (cn _).mono ?_;rintro e w1 ⟨cb, mb, b, db, v, E, L, D, rfl, S, hI, hL, hC, hD, hw, hb1, hb2, hb3, hb4⟩;have hC' := Lib.hid (show ∀ q, someC L q ↔ PutPt s [] q from fun q => by rw [hC q]; simp [PutPt]);have hI' := Lib.hid hI;have hL' := Lib.hid (show L.length ≤ 2 + 2 * 0 by omega);have hD' := Lib.hid (show D.length ≤ 4 + 2 * 0 by rw [hD.length_eq]; simp);replace hb1 := Lib.hid hb1;replace hb2 := Lib.hid hb2;clear cn hI hL hC hD;go_wp2_with fail
 go_loopw [9] (fun vi wr => ∃ (k : Nat) (v : Value) (E : Es) (L : List Tri3) (D : List Wl), vi = .int .i64 k ∧ k ≤ n ∧ CdtAt wr cb mb b db v s s E D ∧ Hid (CInv s s E L D) ∧ Hid (∀ q, someC L q ↔ PutPt s (P.take k) q) ∧ Hid (L.length ≤ 2 + 2 * k) ∧ Hid (D.length ≤ 4 + 2 * k) ∧ Below w.heap.size w wr) (fun vi _ => n - (intOf vi).toNat)
 case atStart => exact ⟨0, v, E, L, D, rfl, Nat.zero_le _, S, hI', by simpa using hC', hL', hD', hw⟩
 case round =>
  clear S hI' hC' hL' hD' hw;obtain ⟨k, v, E, L, D, rfl, hk, S, hI, hC, hL, hD, hw⟩ := hrel;by_cases hlt : k < n
  case neg =>
   obtain rfl : n = k := by omega
   have hC2 := Lib.hid (show ∀ q, someC L q ↔ PutPt s P q from fun q => by rw [hC.out q, List.take_of_length_le (by rw [hP.out]; omega)]);clear hC hlt hk;have hDQ := Lib.hid (show D.length ≤ 64 + 186 * 0 by have := hD.out; omega);have hLQ := Lib.hid (show L.length ≤ 2 + 2 * n from hL.out);clear hD hL;go_wp2
   go_loopw [10] (fun vi wr => ∃ (k : Nat) (v : Value) (E : Es) (L : List Tri3) (D : List Wl), vi = .int .i64 k ∧ k ≤ m0 ∧ CdtAt wr cb mb b db v s s E D ∧ Hid (CInv s s E L D) ∧ Hid (∀ q, someC L q ↔ PutPt s P q) ∧ Hid (L.length ≤ 2 + 2 * n) ∧ Hid (D.length ≤ 64 + 186 * k) ∧ Below w.heap.size w wr) (fun vi _ => m0 - (intOf vi).toNat)
   case atStart => exact ⟨0, v, E, L, D, rfl, Nat.zero_le _, S, hI, hC2, hLQ, hDQ, hw⟩
   case round =>
    clear S hI hC2 hLQ hDQ hw;obtain ⟨k, v, E, L, D, rfl, hk, S, hI, hC2, hL, hD, hw⟩ := hrel;by_cases hlt : k < m0
    case neg =>
     have hkn : ¬ (k : Int) < (m0 : Int) := by omega
     clear hlt;have hG := hI.out.good;have hLk := hL.out;have hE : E.length ≤ 1000000 := by rw [hG.len]; omega
     have ht := fun W B H => zHx mb b E hE W B H;have hp0 : (srt cmpT (heads (fun _ => true) E)).Perm L := (zAg _).trans hG.heads;generalize srt cmpT (heads (fun _ => true) E) = I at *
     obtain ⟨m, hm⟩ : ∃ m, I.length = m := ⟨_, rfl⟩;rw [hm] at ht;have hm1 : m ≤ 1000000 := by rw [← hm, hp0.length_eq]; omega
     have hv : ∀ T ∈ I, valT T = true := fun T h => hG.val T (hp0.mem_iff.1 h);have hgo := Good.puts (I := I) (E := []) (M := []) ⟨by simp, by simp [KeysNodup], by simp⟩ hv (by
      rw [List.append_nil];exact ((hp0.flatMap_right ways).nodup_iff).2 hG.once)
     rw [List.append_nil, hm] at hgo;obtain ⟨hg1, hg2⟩ := hgo;have hG2 := Lib.hid (show Good (putRun [] I).2 L from ⟨hg2.perm.trans (hp0.flatMap_right wys), hg2.nodup, hG.val⟩);have hn2 := fun a cap W H => mnew_1 a cap m I (Lib.hid hm) hm1 (fun T h => zBk (hv T h)) hg1 W H;clear hg1 hg2 hv hp0 hm1 hE hG hLk hm;have Fs := S.box.f;go_wp2_with fail;clear Fs;refine (ht _ S.mesh S.map).mono ?_;rintro e w5 ⟨a5, c5, rfl, hr5, hb⟩;replace S := S.ee hb;have hw5 := (upB hw hb);clear hb ht hw;go_wp2_with fail;refine (hn2 _ _ _ hr5).mono ?_;rintro e w6 ⟨m2, b2, rfl, B2, H2, h1, h2, hb⟩;have S6 := S.ee hb;have hw6 := (upB hw5 hb);have hbl := S.map.lt;have hdl := S.doc.box.lt;clear hb hn2 hr5;go_wp2;refine bodyPost_ret (v := .tuple #[.pointer (some ⟨m2, 0, none⟩), .pointer (some ⟨cb, 0, none⟩)]) (by simp [results, Tryz.results13, go_sem]) rfl ?_;exact ⟨m2, b2, cb, mb, b, db, v, _, E, L, D, rfl, B2, H2, hG2.out, S6, hI.out, hC2.out, by rw [hP.out]; exact hL.out, hw6, Nat.le_trans hw5.size h2, Nat.le_trans hw5.size h1, by omega, by omega, by omega, by omega⟩
    case pos =>
     have hlk : k < Q.length := hQ.out ▸ hlt;obtain ⟨ad, A, ea, eA, hA0⟩ := hq0.two hlk;have hA := hA0.ee hw;generalize Q[k] = x at *
     have cs1 := fun w0 => zG2 s x.x hs hs2 w0;have cs2 := fun w0 => zG2 s x.y hs hs2 w0;have hLk := hL.out;have hDk := hD.out;have ca := fun p q W0 S0 => rcaddw_any cb mb b db v s s (by omega) (by omega) E L D hI.out (by omega) (by omega) p q W0 S0;subst ea;obtain ⟨s0, s1⟩ := hA.cells;have q0 : (k : Int) < (m0 : Int) := by omega
     clear hA hA0 hLk hDk;go_wp2_with fail;refine wrt 15 (by kernel_rfl) (by kernel_rfl) ?_;simp only [tK1, tK0, dP1, dP0];repeat (first | (refine zA0 (Eq.refl false) ?_; simp only [Act.put, sT2, sT1, sT0]) | (refine rWalk_step (fun K hK => ?_); go_simp; first | (refine hK _ ?_; clear hK K) | (apply Exists.intro; refine ⟨fun _ => ?_, hK _ ?_⟩; (first | with_reducible exact toExt cs1 _ | with_reducible exact toExt cs2 _); clear hK K)))
     refine rWalk_nil ?_;intro w3 hb;clear s0 s1 cs1 cs2;replace S := S.ee hb;replace hw := upB hw hb;clear hb;go_wp2_with fail;refine (ca _ _ w3 S).mono ?_;rintro e w4 ⟨r, v', E1, E', L', D', rfl, S', hI2, _, _, _, hC3, hL2, hD2, hf⟩;have hw4 : Below w.heap.size w w4 := hw.trans (hf.below (fun j hj => by have := hb1.out; have := hb2.out; rcases hj with rfl | rfl <;> omega) hw.size);have hC4 := Lib.hid (show ∀ q, someC L' q ↔ PutPt s P q from fun q => (hC3 q).trans (hC2.out q));have hL3 := Lib.hid (show L'.length ≤ 2 + 2 * n by rw [hL2]; exact hL.out);have hD3 := Lib.hid (show D'.length ≤ 64 + 186 * (k + 1) by have := hL.out; have := hD.out; omega);have hI3 := Lib.hid hI2;clear hC3 hL2 hD2 hf hI2 S hw ca hC2 hL hD hI;go_wp2_with fail
     go_roundw
     case rel => exact ⟨k + 1, v', E', L', D', by go_num, by omega, S', hI3, hC4, hL3, hD3, hw4⟩
     case measure => simp [intOf]; omega
  case pos =>
   have hlk : k < P.length := hP.out ▸ hlt;have HN := Lib.hid (show P.take (k + 1) = P.take k ++ [P[k]] from List.take_succ_eq_append_getElem hlk);obtain ⟨ad, ea, hab0, hA0⟩ := h0.num hlk;have hA := (h0.ee hw).num hlk;obtain ⟨ad2, ea2, hab, hA⟩ := hA;obtain rfl : ad = ad2 := by rw [ea] at ea2; exact Option.some.inj ea2
   clear hA0 ea2;generalize P[k] = x at *
   go_wp2_with fail;refine (csp x _).mono ?_;rintro e w3 ⟨rfl, hb⟩;replace S := S.ee hb;replace hw := upB hw hb;clear hb hA;go_wp2_with fail;have hLk := hL.out;have hDk := hD.out;refine (zI5 cb mb b db v s s hs hs (by omega) (by omega) E L D hI.out (by omega) (by omega) (spt s x) _ S).mono ?_;rintro e w4 ⟨r, v', E', L', D', rfl, S', hI2, hr, hC2, hL2, hD2, hf⟩;have hw4 : Below w.heap.size w w4 := hw.trans (hf.below (fun j hj => by have := hb1.out; have := hb2.out; rcases hj with rfl | rfl <;> omega) hw.size);have hC3 := Lib.hid (show ∀ q, someC L' q ↔ PutPt s (P.take (k + 1)) q from fun q => by
    rw [hC2 q, hC.out q, HN.out];have hin : inBox s s (spt s x) := zJc hs x;unfold PutPt;constructor
    ·rintro ((h | ⟨y, h1, h2⟩) | ⟨h, _⟩)
     ·exact .inl h
     ·exact .inr ⟨y, List.mem_append_left _ h1, h2⟩
     ·exact .inr ⟨x, by simp, h⟩
    ·rintro (h | ⟨y, h1, h2⟩)
     ·exact .inl (.inl h)
     ·rcases List.mem_append.1 h1 with h1 | h1
      ·exact .inl (.inr ⟨y, h1, h2⟩)
      ·rw [List.mem_singleton] at h1;rw [h1] at h2;exact .inr ⟨h2, hin⟩)
   have hL3 := Lib.hid (show L'.length ≤ 2 + 2 * (k + 1) by omega);have hD3 := Lib.hid (show D'.length ≤ 4 + 2 * (k + 1) by omega);have hI3 := Lib.hid hI2;clear hC2 hL2 hD2 hf hr hLk hDk hI2 S hw;go_wp2_with fail;rw [← ea]
   go_roundw
   case rel => exact ⟨k + 1, v', E', L', D', by go_num, by omega, S', hI3, hC3, hL3, hD3, hw4⟩
   case measure => simp [intOf]; omega
theorem atCl (T : Tri3) (p : Pt) (pb : Nat) (w : World) (Bp : Box w pb [.int .i64 p.x, .int .i64 p.y] 30) : Calls Tryz.prog 54 #[.agg #[.int .i64 T.A.x, .int .i64 T.A.y, .int .i64 T.B.x, .int .i64 T.B.y, .int .i64 T.C.x, .int .i64 T.C.y], .pointer (some ⟨pb, 0, none⟩)] w fun e w' => e = .returned (.bool (hasP T p)) ∧ Below w.heap.size w w' := by
 have ch := has_any T p;simp only [has_eq] at ch;generalize hasP T p = z at *
 have Fp := Bp.f
 go_enter Tryz.func54, Tryz.ntmps54
 go_wp2_with fail;refine zA1 fun W1 hW => ?_;have hw : Below w.heap.size w W1 := by rw [hW]; go_grown
 clear hW;refine (ch _).mono ?_;rintro e w2 ⟨rfl, hb⟩;have hw2 := (upB hw hb);clear hb hw ch Fp;go_wp2
 go_ret
 exact ⟨rfl, hw2⟩
theorem atEnter : ∀ args w, (callFunc 54 args).run Tryz.prog w = .ok (.enter 54 args) w := enters_of Tryz.func54 (by kernel_rfl) rfl
def stC (p : Pt) (T : Tri3) : Bool := peqI T.A.x T.A.y p.x p.y || (peqI T.B.x T.B.y p.x p.y || peqI T.C.x T.C.y p.x p.y)
theorem stC_eq (p : Pt) (T : Tri3) : stC p T = isCb p T := by
 unfold stC isCb;have e : ∀ q : Pt, peqI q.x q.y p.x p.y = decide (p = q) := fun q => by
  by_cases h : p = q
  ·rw [pp h.symm]; simp [h]
  ·rw [zBr.2 (Ne.symm h)]; simp [h]
 rw [e, e, e]
theorem stCl0 (T : Tri3) (p : Pt) (pb : Nat) (h0 : peqI T.A.x T.A.y p.x p.y = true) (w : World) (Bp : Box w pb [.int .i64 p.x, .int .i64 p.y] 30) : Calls Tryz.prog 56 #[.agg #[.int .i64 T.A.x, .int .i64 T.A.y, .int .i64 T.B.x, .int .i64 T.B.y, .int .i64 T.C.x, .int .i64 T.C.y], .pointer (some ⟨pb, 0, none⟩)] w fun e w' => e = .returned (.bool true) ∧ Below w.heap.size w w' := by
 have Fp := Bp.f
 go_enter Tryz.func56, Tryz.ntmps56
 go_wp2
 go_ret
 exact ⟨rfl, by go_grown⟩
theorem stCl1 (T : Tri3) (p : Pt) (pb : Nat) (h0 : peqI T.A.x T.A.y p.x p.y = false) (h1 : peqI T.B.x T.B.y p.x p.y = true) (w : World) (Bp : Box w pb [.int .i64 p.x, .int .i64 p.y] 30) : Calls Tryz.prog 56 #[.agg #[.int .i64 T.A.x, .int .i64 T.A.y, .int .i64 T.B.x, .int .i64 T.B.y, .int .i64 T.C.x, .int .i64 T.C.y], .pointer (some ⟨pb, 0, none⟩)] w fun e w' => e = .returned (.bool true) ∧ Below w.heap.size w w' := by
 have Fp := Bp.f
 go_enter Tryz.func56, Tryz.ntmps56
 go_wp2
 go_ret
 exact ⟨rfl, by go_grown⟩
theorem stCl2 (T : Tri3) (p : Pt) (pb : Nat) (h0 : peqI T.A.x T.A.y p.x p.y = false) (h1 : peqI T.B.x T.B.y p.x p.y = false) (h2 : peqI T.C.x T.C.y p.x p.y = true) (w : World) (Bp : Box w pb [.int .i64 p.x, .int .i64 p.y] 30) : Calls Tryz.prog 56 #[.agg #[.int .i64 T.A.x, .int .i64 T.A.y, .int .i64 T.B.x, .int .i64 T.B.y, .int .i64 T.C.x, .int .i64 T.C.y], .pointer (some ⟨pb, 0, none⟩)] w fun e w' => e = .returned (.bool true) ∧ Below w.heap.size w w' := by
 have Fp := Bp.f
 go_enter Tryz.func56, Tryz.ntmps56
 go_wp2
 go_ret
 exact ⟨rfl, by go_grown⟩
theorem stCl3 (T : Tri3) (p : Pt) (pb : Nat) (h0 : peqI T.A.x T.A.y p.x p.y = false) (h1 : peqI T.B.x T.B.y p.x p.y = false) (h2 : peqI T.C.x T.C.y p.x p.y = false) (w : World) (Bp : Box w pb [.int .i64 p.x, .int .i64 p.y] 30) : Calls Tryz.prog 56 #[.agg #[.int .i64 T.A.x, .int .i64 T.A.y, .int .i64 T.B.x, .int .i64 T.B.y, .int .i64 T.C.x, .int .i64 T.C.y], .pointer (some ⟨pb, 0, none⟩)] w fun e w' => e = .returned (.bool false) ∧ Below w.heap.size w w' := by
 have Fp := Bp.f
 go_enter Tryz.func56, Tryz.ntmps56
 go_wp2
 go_ret
 exact ⟨rfl, by go_grown⟩
theorem stCl (T : Tri3) (p : Pt) (pb : Nat) (w : World) (Bp : Box w pb [.int .i64 p.x, .int .i64 p.y] 30) : Calls Tryz.prog 56 #[.agg #[.int .i64 T.A.x, .int .i64 T.A.y, .int .i64 T.B.x, .int .i64 T.B.y, .int .i64 T.C.x, .int .i64 T.C.y], .pointer (some ⟨pb, 0, none⟩)] w fun e w' => e = .returned (.bool (isCb p T)) ∧ Below w.heap.size w w' := by
 rw [← stC_eq];unfold stC;cases h0 : peqI T.A.x T.A.y p.x p.y with
 | true => exact stCl0 T p pb h0 w Bp
 | false =>
  cases h1 : peqI T.B.x T.B.y p.x p.y with
  | true => exact stCl1 T p pb h0 h1 w Bp
  | false =>
   cases h2 : peqI T.C.x T.C.y p.x p.y with
   | true => exact stCl2 T p pb h0 h1 h2 w Bp
   | false => exact stCl3 T p pb h0 h1 h2 w Bp
theorem stEnter : ∀ args w, (callFunc 56 args).run Tryz.prog w = .ok (.enter 56 args) w := enters_of Tryz.func56 (by kernel_rfl) rfl
theorem zJ7 (mb b : Nat) (E : Es) (p : Pt) (hE : E.length ≤ 1000000) (w : World) (Bm : Box w mb [.map (some b)] 89) (Hm : HoldsMap eW eT okW w b E) :
    Calls Tryz.prog 15 #[.pointer (some ⟨mb, 0, none⟩), .agg #[.int .i64 p.x, .int .i64 p.y]] w fun e w' => ∃ a cap, e = .returned (.slice a (srt cmpT (heads (fun T => hasP T p) E)).length cap) ∧ RowAt cT 6 w' a (srt cmpT (heads (fun T => hasP T p) E)) ∧ Below w.heap.size w w' := by
 obtain ⟨f, ef⟩ : ∃ f : Tri3 → Bool, f = (fun T => hasP T p) := ⟨_, rfl⟩;rw [← ef];have cc : ∀ (T : Tri3) (pb : Nat) (W : World), Box W pb [.int .i64 p.x, .int .i64 p.y] 30 → Calls Tryz.prog 54 #[.agg #[.int .i64 T.A.x, .int .i64 T.A.y, .int .i64 T.B.x, .int .i64 T.B.y, .int .i64 T.C.x, .int .i64 T.C.y], .pointer (some ⟨pb, 0, none⟩)] W fun e w' => e = .returned (.bool (f T)) ∧ Below W.heap.size W w' := fun T pb W B => by rw [ef]; exact atCl T p pb W B
 clear ef
 go_enter Tryz.func15, Tryz.ntmps15
 go_wp2_with fail;refine zA1 fun W1 hW => ?_;have Bp : Box W1 w.heap.size [.int .i64 p.x, .int .i64 p.y] 30 := by rw [hW]; exact Box.new rfl
 have hw : Below w.heap.size w W1 := by rw [hW]; go_grown
 clear hW;refine (zFy mb b E 54 #[.pointer (some ⟨w.heap.size, 0, none⟩)] f hE W1 (Bm.ee hw) (Hm.ee hw) atEnter (fun T W hW => cc T _ W (Bp.ee hW))).mono ?_;rintro e w2 ⟨a, cap, rfl, hr, hb⟩;have hw2 := (upB hw hb);go_wp2
 go_ret
 exact ⟨a, cap, rfl, hr, hw2⟩
theorem zFx (mb b : Nat) (E : Es) (p : Pt) (hE : E.length ≤ 1000000) (w : World) (Bm : Box w mb [.map (some b)] 89) (Hm : HoldsMap eW eT okW w b E) :
    Calls Tryz.prog 16 #[.pointer (some ⟨mb, 0, none⟩), .agg #[.int .i64 p.x, .int .i64 p.y]] w fun e w' => ∃ a cap, e = .returned (.slice a (srt cmpT (heads (fun T => isCb p T) E)).length cap) ∧ RowAt cT 6 w' a (srt cmpT (heads (fun T => isCb p T) E)) ∧ Below w.heap.size w w' := by
 obtain ⟨f, ef⟩ : ∃ f : Tri3 → Bool, f = (fun T => isCb p T) := ⟨_, rfl⟩;rw [← ef];have cc : ∀ (T : Tri3) (pb : Nat) (W : World), Box W pb [.int .i64 p.x, .int .i64 p.y] 30 → Calls Tryz.prog 56 #[.agg #[.int .i64 T.A.x, .int .i64 T.A.y, .int .i64 T.B.x, .int .i64 T.B.y, .int .i64 T.C.x, .int .i64 T.C.y], .pointer (some ⟨pb, 0, none⟩)] W fun e w' => e = .returned (.bool (f T)) ∧ Below W.heap.size W w' := fun T pb W B => by rw [ef]; exact stCl T p pb W B
 clear ef
 go_enter Tryz.func16, Tryz.ntmps16
 go_wp2_with fail;refine zA1 fun W1 hW => ?_;have Bp : Box W1 w.heap.size [.int .i64 p.x, .int .i64 p.y] 30 := by rw [hW]; exact Box.new rfl
 have hw : Below w.heap.size w W1 := by rw [hW]; go_grown
 clear hW;refine (zFy mb b E 56 #[.pointer (some ⟨w.heap.size, 0, none⟩)] f hE W1 (Bm.ee hw) (Hm.ee hw) stEnter (fun T W hW => cc T _ W (Bp.ee hW))).mono ?_;rintro e w2 ⟨a, cap, rfl, hr, hb⟩;have hw2 := (upB hw hb);go_wp2
 go_ret
 exact ⟨a, cap, rfl, hr, hw2⟩
def flk1 (E : Es) (T : Tri3) (p : Pt) (k : Int) : Bool := (!peqI (crn T k).x (crn T k).y p.x p.y && !peqI (crn T (k + 1)).x (crn T (k + 1)).y p.x p.y) || (acrE E T k).2
def flkK (E : Es) (T : Tri3) (p : Pt) : Nat → Bool
 | 0 => true
 | k + 1 => flkK E T p k && flk1 E T p k
theorem zDf {E : Es} {T : Tri3} {p : Pt} : ∀ {k n : Nat}, k ≤ n → flkK E T p k = false → flkK E T p n = false
 | k, 0, h, e => by obtain rfl : k = 0 := by omega
                    exact e
 | k, n + 1, h, e => by
  by_cases hk : k = n + 1
  ·rw [← hk]; exact e
  ·unfold flkK; rw [zDf (by omega : k ≤ n) e]; rfl
theorem flanked_any (mb b : Nat) (E : Es) (T : Tri3) (hT : okT T) (p : Pt) (w : World) (Bm : Box w mb [.map (some b)] 89) (Hm : HoldsMap eW eT okW w b E) :
    Calls Tryz.prog 57 #[.pointer (some ⟨mb, 0, none⟩), .agg #[.int .i64 T.A.x, .int .i64 T.A.y, .int .i64 T.B.x, .int .i64 T.B.y, .int .i64 T.C.x, .int .i64 T.C.y], .agg #[.int .i64 p.x, .int .i64 p.y]] w fun e w' => e = .returned (.bool (flkK E T p 3)) ∧ Below w.heap.size w w' := by
 go_enter Tryz.func57, Tryz.ntmps57
 go_wp2_with fail;refine zA3 fun W1 hW => ?_;obtain ⟨Bt, Ba, hw⟩ := N2 hW;clear hW
 go_loopw [12] (fun v wr => ∃ (k : Nat) (j : Int), k ≤ 3 ∧ v = .int .i64 j ∧ Hid (j = k) ∧ Hid (flkK E T p k = true) ∧ Box wr (w.heap.size) [.int .i64 T.A.x, .int .i64 T.A.y, .int .i64 T.B.x, .int .i64 T.B.y, .int .i64 T.C.x, .int .i64 T.C.y] 38 ∧ Box wr (w.heap.size + 1) [.int .i64 p.x, .int .i64 p.y] 30 ∧ Below w.heap.size w wr) (fun v _ => 3 - (intOf v).toNat)
 case atStart => exact ⟨0, 0, by omega, rfl, Lib.hid rfl, Lib.hid rfl, Bt, Ba, hw⟩
 case round =>
  clear Bt Ba hw;obtain ⟨k, j, hk, rfl, hj, HF, Bt, Ba, hw⟩ := hrel;have hk' : k = 0 ∨ k = 1 ∨ k = 2 ∨ k = 3 := by omega
  rcases hk' with rfl | rfl | rfl | rfl
  ·have hj : j = 0 := by simpa using hj.out
   subst hj;have c1 := zAw T 0;have c2 := zF4 mb b E T 0 hT;have HN := Lib.hid (show flkK E T p (0 + 1) = (flkK E T p 0 && flk1 E T p 0) from rfl);unfold flk1 at HN;rw [HF.out, Bool.true_and] at HN;try rw [show acrE E T ((0 : Nat) : Int) = acrE E T 0 from rfl] at HN
   try rw [show crn T ((0 : Nat) : Int) = crn T 0 from rfl] at HN
   try rw [show crn T (((0 : Nat) : Int) + 1) = crn T (0 + 1) from rfl] at HN
   generalize acrE E T 0 = yz at *
   obtain ⟨y, z⟩ := yz;generalize crn T 0 = u at *
   generalize crn T (0 + 1) = v at *
   dsimp only at HN c2;have Ft := Bt.f;have Fa := Ba.f;go_wp2_with fail;refine (c1 _).mono ?_;rintro e w41 ⟨rfl, hb⟩;clear Ft Fa;obtain ⟨Bt, Ba, hw, -⟩ := X2 Bt Ba hw hb;clear hb;cases ea : peqI u.x u.y p.x p.y with
   | true =>
    have e1 : peqI u.x u.y p.x p.y = true := ea;rw [e1] at HN;simp only [Bool.not_true, Bool.false_and, Bool.false_or] at HN;have nt : (w.heap.size = w41.heap.size + 1) = False := by have := hw.size; simp; omega
    have Ft := Bt.f;have Fa := Ba.f;go_wp2_with fail;clear nt;refine zA1 fun W42 hW => ?_;obtain ⟨bku, hbu⟩ : ∃ b, w41.heap.size = b := ⟨_, rfl⟩;rw [hbu];have ltu := Bt.lt;rw [hbu] at ltu;have lau := Ba.lt;rw [hbu] at lau;have fu := hw.size;rw [hbu] at fu;have Bu : Box W42 (bku) [.int .i64 u.x, .int .i64 u.y] 30 := by rw [hW, ← hbu]; exact (Box.new rfl).old _
    have Bv : Box W42 (bku + 1) [.int .i64 v.x, .int .i64 v.y] 30 := by rw [hW, ← hbu]; exact Box.new (by simp)
    replace Bt : Box W42 (w.heap.size) [.int .i64 T.A.x, .int .i64 T.A.y, .int .i64 T.B.x, .int .i64 T.B.y, .int .i64 T.C.x, .int .i64 T.C.y] 38 := by rw [hW]; exact ((Bt).old _).old _
    replace Ba : Box W42 (w.heap.size + 1) [.int .i64 p.x, .int .i64 p.y] 30 := by rw [hW]; exact ((Ba).old _).old _
    replace hw : Below w.heap.size w W42 := by have hl := hw.size; rw [hW]; go_grown
    clear hW hbu;refine (c2 _ (Bm.ee hw) (Hm.ee hw)).mono ?_;rintro e w43 ⟨rfl, hb⟩;clear Ft Fa;obtain ⟨Bt, Ba, Bu, Bv, hw, -⟩ := X4 Bt Ba Bu Bv hw hb;clear hb;cases z with
    | false =>
     have Ft := Bt.f;have Fa := Ba.f;have Fu := Bu.f;have Fv := Bv.f;go_wp2_with fail
     go_ret
     refine ⟨by rw [zDf (by omega : 0 + 1 ≤ 3) HN.out]; rfl, ?_⟩;have hl := hw.size;go_grown
    | true =>
     have Ft := Bt.f;have Fa := Ba.f;have Fu := Bu.f;have Fv := Bv.f;go_wp2_with fail;refine ⟨⟨1, 1, by omega, rfl, Lib.hid rfl, HN, by first | exact Bt.old _ | exact (Bt.old _).old _, by first | exact Ba.old _ | exact (Ba.old _).old _, ?_⟩, by decide⟩;have hl := hw.size;go_grown
   | false =>
    cases eb : peqI v.x v.y p.x p.y with
    | true =>
     have e1 : peqI u.x u.y p.x p.y = false := ea;have e2 : peqI v.x v.y p.x p.y = true := eb;rw [e1, e2] at HN;simp only [Bool.not_true, Bool.and_false, Bool.false_or] at HN;have nt : (w.heap.size = w41.heap.size + 1) = False := by have := hw.size; simp; omega
     have Ft := Bt.f;have Fa := Ba.f;go_wp2_with fail;clear nt;refine zA1 fun W42 hW => ?_;obtain ⟨bku, hbu⟩ : ∃ b, w41.heap.size = b := ⟨_, rfl⟩;rw [hbu];have ltu := Bt.lt;rw [hbu] at ltu;have lau := Ba.lt;rw [hbu] at lau;have fu := hw.size;rw [hbu] at fu;have Bu : Box W42 (bku) [.int .i64 u.x, .int .i64 u.y] 30 := by rw [hW, ← hbu]; exact (Box.new rfl).old _
     have Bv : Box W42 (bku + 1) [.int .i64 v.x, .int .i64 v.y] 30 := by rw [hW, ← hbu]; exact Box.new (by simp)
     replace Bt : Box W42 (w.heap.size) [.int .i64 T.A.x, .int .i64 T.A.y, .int .i64 T.B.x, .int .i64 T.B.y, .int .i64 T.C.x, .int .i64 T.C.y] 38 := by rw [hW]; exact ((Bt).old _).old _
     replace Ba : Box W42 (w.heap.size + 1) [.int .i64 p.x, .int .i64 p.y] 30 := by rw [hW]; exact ((Ba).old _).old _
     replace hw : Below w.heap.size w W42 := by have hl := hw.size; rw [hW]; go_grown
     clear hW hbu;refine (c2 _ (Bm.ee hw) (Hm.ee hw)).mono ?_;rintro e w43 ⟨rfl, hb⟩;clear Ft Fa;obtain ⟨Bt, Ba, Bu, Bv, hw, -⟩ := X4 Bt Ba Bu Bv hw hb;clear hb;cases z with
     | false =>
      have Ft := Bt.f;have Fa := Ba.f;have Fu := Bu.f;have Fv := Bv.f;go_wp2_with fail
      go_ret
      refine ⟨by rw [zDf (by omega : 0 + 1 ≤ 3) HN.out]; rfl, ?_⟩;have hl := hw.size;go_grown
     | true =>
      have Ft := Bt.f;have Fa := Ba.f;have Fu := Bu.f;have Fv := Bv.f;go_wp2_with fail;refine ⟨⟨1, 1, by omega, rfl, Lib.hid rfl, HN, by first | exact Bt.old _ | exact (Bt.old _).old _, by first | exact Ba.old _ | exact (Ba.old _).old _, ?_⟩, by decide⟩;have hl := hw.size;go_grown
    | false =>
     have e1 : peqI u.x u.y p.x p.y = false := ea;have e2 : peqI v.x v.y p.x p.y = false := eb;rw [e1, e2] at HN;simp only [Bool.not_false, Bool.true_and, Bool.true_or] at HN;have Ft := Bt.f;have Fa := Ba.f;go_wp2_with fail;refine ⟨⟨1, 1, by omega, rfl, Lib.hid rfl, HN, by first | exact Bt.old _ | exact (Bt.old _).old _, by first | exact Ba.old _ | exact (Ba.old _).old _, ?_⟩, by decide⟩;have hl := hw.size;go_grown
  ·have hj : j = 1 := by simpa using hj.out
   subst hj;have c1 := zAw T 1;have c2 := zF4 mb b E T 1 hT;have HN := Lib.hid (show flkK E T p (1 + 1) = (flkK E T p 1 && flk1 E T p 1) from rfl);unfold flk1 at HN;rw [HF.out, Bool.true_and] at HN;try rw [show acrE E T ((1 : Nat) : Int) = acrE E T 1 from rfl] at HN
   try rw [show crn T ((1 : Nat) : Int) = crn T 1 from rfl] at HN
   try rw [show crn T (((1 : Nat) : Int) + 1) = crn T (1 + 1) from rfl] at HN
   generalize acrE E T 1 = yz at *
   obtain ⟨y, z⟩ := yz;generalize crn T 1 = u at *
   generalize crn T (1 + 1) = v at *
   dsimp only at HN c2;have Ft := Bt.f;have Fa := Ba.f;go_wp2_with fail;refine (c1 _).mono ?_;rintro e w41 ⟨rfl, hb⟩;clear Ft Fa;obtain ⟨Bt, Ba, hw, -⟩ := X2 Bt Ba hw hb;clear hb;cases ea : peqI u.x u.y p.x p.y with
   | true =>
    have e1 : peqI u.x u.y p.x p.y = true := ea;rw [e1] at HN;simp only [Bool.not_true, Bool.false_and, Bool.false_or] at HN;have nt : (w.heap.size = w41.heap.size + 1) = False := by have := hw.size; simp; omega
    have Ft := Bt.f;have Fa := Ba.f;go_wp2_with fail;clear nt;refine zA1 fun W42 hW => ?_;obtain ⟨bku, hbu⟩ : ∃ b, w41.heap.size = b := ⟨_, rfl⟩;rw [hbu];have ltu := Bt.lt;rw [hbu] at ltu;have lau := Ba.lt;rw [hbu] at lau;have fu := hw.size;rw [hbu] at fu;have Bu : Box W42 (bku) [.int .i64 u.x, .int .i64 u.y] 30 := by rw [hW, ← hbu]; exact (Box.new rfl).old _
    have Bv : Box W42 (bku + 1) [.int .i64 v.x, .int .i64 v.y] 30 := by rw [hW, ← hbu]; exact Box.new (by simp)
    replace Bt : Box W42 (w.heap.size) [.int .i64 T.A.x, .int .i64 T.A.y, .int .i64 T.B.x, .int .i64 T.B.y, .int .i64 T.C.x, .int .i64 T.C.y] 38 := by rw [hW]; exact ((Bt).old _).old _
    replace Ba : Box W42 (w.heap.size + 1) [.int .i64 p.x, .int .i64 p.y] 30 := by rw [hW]; exact ((Ba).old _).old _
    replace hw : Below w.heap.size w W42 := by have hl := hw.size; rw [hW]; go_grown
    clear hW hbu;refine (c2 _ (Bm.ee hw) (Hm.ee hw)).mono ?_;rintro e w43 ⟨rfl, hb⟩;clear Ft Fa;obtain ⟨Bt, Ba, Bu, Bv, hw, -⟩ := X4 Bt Ba Bu Bv hw hb;clear hb;cases z with
    | false =>
     have Ft := Bt.f;have Fa := Ba.f;have Fu := Bu.f;have Fv := Bv.f;go_wp2_with fail
     go_ret
     refine ⟨by rw [zDf (by omega : 1 + 1 ≤ 3) HN.out]; rfl, ?_⟩;have hl := hw.size;go_grown
    | true =>
     have Ft := Bt.f;have Fa := Ba.f;have Fu := Bu.f;have Fv := Bv.f;go_wp2_with fail;refine ⟨⟨2, 2, by omega, rfl, Lib.hid rfl, HN, by first | exact Bt.old _ | exact (Bt.old _).old _, by first | exact Ba.old _ | exact (Ba.old _).old _, ?_⟩, by decide⟩;have hl := hw.size;go_grown
   | false =>
    cases eb : peqI v.x v.y p.x p.y with
    | true =>
     have e1 : peqI u.x u.y p.x p.y = false := ea;have e2 : peqI v.x v.y p.x p.y = true := eb;rw [e1, e2] at HN;simp only [Bool.not_true, Bool.and_false, Bool.false_or] at HN;have nt : (w.heap.size = w41.heap.size + 1) = False := by have := hw.size; simp; omega
     have Ft := Bt.f;have Fa := Ba.f;go_wp2_with fail;clear nt;refine zA1 fun W42 hW => ?_;obtain ⟨bku, hbu⟩ : ∃ b, w41.heap.size = b := ⟨_, rfl⟩;rw [hbu];have ltu := Bt.lt;rw [hbu] at ltu;have lau := Ba.lt;rw [hbu] at lau;have fu := hw.size;rw [hbu] at fu;have Bu : Box W42 (bku) [.int .i64 u.x, .int .i64 u.y] 30 := by rw [hW, ← hbu]; exact (Box.new rfl).old _
     have Bv : Box W42 (bku + 1) [.int .i64 v.x, .int .i64 v.y] 30 := by rw [hW, ← hbu]; exact Box.new (by simp)
     replace Bt : Box W42 (w.heap.size) [.int .i64 T.A.x, .int .i64 T.A.y, .int .i64 T.B.x, .int .i64 T.B.y, .int .i64 T.C.x, .int .i64 T.C.y] 38 := by rw [hW]; exact ((Bt).old _).old _
     replace Ba : Box W42 (w.heap.size + 1) [.int .i64 p.x, .int .i64 p.y] 30 := by rw [hW]; exact ((Ba).old _).old _
     replace hw : Below w.heap.size w W42 := by have hl := hw.size; rw [hW]; go_grown
     clear hW hbu;refine (c2 _ (Bm.ee hw) (Hm.ee hw)).mono ?_;rintro e w43 ⟨rfl, hb⟩;clear Ft Fa;obtain ⟨Bt, Ba, Bu, Bv, hw, -⟩ := X4 Bt Ba Bu Bv hw hb;clear hb;cases z with
     | false =>
      have Ft := Bt.f;have Fa := Ba.f;have Fu := Bu.f;have Fv := Bv.f;go_wp2_with fail
      go_ret
      refine ⟨by rw [zDf (by omega : 1 + 1 ≤ 3) HN.out]; rfl, ?_⟩;have hl := hw.size;go_grown
     | true =>
      have Ft := Bt.f;have Fa := Ba.f;have Fu := Bu.f;have Fv := Bv.f;go_wp2_with fail;refine ⟨⟨2, 2, by omega, rfl, Lib.hid rfl, HN, by first | exact Bt.old _ | exact (Bt.old _).old _, by first | exact Ba.old _ | exact (Ba.old _).old _, ?_⟩, by decide⟩;have hl := hw.size;go_grown
    | false =>
     have e1 : peqI u.x u.y p.x p.y = false := ea;have e2 : peqI v.x v.y p.x p.y = false := eb;rw [e1, e2] at HN;simp only [Bool.not_false, Bool.true_and, Bool.true_or] at HN;have Ft := Bt.f;have Fa := Ba.f;go_wp2_with fail;refine ⟨⟨2, 2, by omega, rfl, Lib.hid rfl, HN, by first | exact Bt.old _ | exact (Bt.old _).old _, by first | exact Ba.old _ | exact (Ba.old _).old _, ?_⟩, by decide⟩;have hl := hw.size;go_grown
  ·have hj : j = 2 := by simpa using hj.out
   subst hj;have c1 := zAw T 2;have c2 := zF4 mb b E T 2 hT;have HN := Lib.hid (show flkK E T p (2 + 1) = (flkK E T p 2 && flk1 E T p 2) from rfl);unfold flk1 at HN;rw [HF.out, Bool.true_and] at HN;try rw [show acrE E T ((2 : Nat) : Int) = acrE E T 2 from rfl] at HN
   try rw [show crn T ((2 : Nat) : Int) = crn T 2 from rfl] at HN
   try rw [show crn T (((2 : Nat) : Int) + 1) = crn T (2 + 1) from rfl] at HN
   generalize acrE E T 2 = yz at *
   obtain ⟨y, z⟩ := yz;generalize crn T 2 = u at *
   generalize crn T (2 + 1) = v at *
   dsimp only at HN c2;have Ft := Bt.f;have Fa := Ba.f;go_wp2_with fail;refine (c1 _).mono ?_;rintro e w41 ⟨rfl, hb⟩;clear Ft Fa;obtain ⟨Bt, Ba, hw, -⟩ := X2 Bt Ba hw hb;clear hb;cases ea : peqI u.x u.y p.x p.y with
   | true =>
    have e1 : peqI u.x u.y p.x p.y = true := ea;rw [e1] at HN;simp only [Bool.not_true, Bool.false_and, Bool.false_or] at HN;have nt : (w.heap.size = w41.heap.size + 1) = False := by have := hw.size; simp; omega
    have Ft := Bt.f;have Fa := Ba.f;go_wp2_with fail;clear nt;refine zA1 fun W42 hW => ?_;obtain ⟨bku, hbu⟩ : ∃ b, w41.heap.size = b := ⟨_, rfl⟩;rw [hbu];have ltu := Bt.lt;rw [hbu] at ltu;have lau := Ba.lt;rw [hbu] at lau;have fu := hw.size;rw [hbu] at fu;have Bu : Box W42 (bku) [.int .i64 u.x, .int .i64 u.y] 30 := by rw [hW, ← hbu]; exact (Box.new rfl).old _
    have Bv : Box W42 (bku + 1) [.int .i64 v.x, .int .i64 v.y] 30 := by rw [hW, ← hbu]; exact Box.new (by simp)
    replace Bt : Box W42 (w.heap.size) [.int .i64 T.A.x, .int .i64 T.A.y, .int .i64 T.B.x, .int .i64 T.B.y, .int .i64 T.C.x, .int .i64 T.C.y] 38 := by rw [hW]; exact ((Bt).old _).old _
    replace Ba : Box W42 (w.heap.size + 1) [.int .i64 p.x, .int .i64 p.y] 30 := by rw [hW]; exact ((Ba).old _).old _
    replace hw : Below w.heap.size w W42 := by have hl := hw.size; rw [hW]; go_grown
    clear hW hbu;refine (c2 _ (Bm.ee hw) (Hm.ee hw)).mono ?_;rintro e w43 ⟨rfl, hb⟩;clear Ft Fa;obtain ⟨Bt, Ba, Bu, Bv, hw, -⟩ := X4 Bt Ba Bu Bv hw hb;clear hb;cases z with
    | false =>
     have Ft := Bt.f;have Fa := Ba.f;have Fu := Bu.f;have Fv := Bv.f;go_wp2_with fail
     go_ret
     refine ⟨by rw [zDf (by omega : 2 + 1 ≤ 3) HN.out]; rfl, ?_⟩;have hl := hw.size;go_grown
    | true =>
     have Ft := Bt.f;have Fa := Ba.f;have Fu := Bu.f;have Fv := Bv.f;go_wp2_with fail;refine ⟨⟨3, 3, by omega, rfl, Lib.hid rfl, HN, by first | exact Bt.old _ | exact (Bt.old _).old _, by first | exact Ba.old _ | exact (Ba.old _).old _, ?_⟩, by decide⟩;have hl := hw.size;go_grown
   | false =>
    cases eb : peqI v.x v.y p.x p.y with
    | true =>
     have e1 : peqI u.x u.y p.x p.y = false := ea;have e2 : peqI v.x v.y p.x p.y = true := eb;rw [e1, e2] at HN;simp only [Bool.not_true, Bool.and_false, Bool.false_or] at HN;have nt : (w.heap.size = w41.heap.size + 1) = False := by have := hw.size; simp; omega
     have Ft := Bt.f;have Fa := Ba.f;go_wp2_with fail;clear nt;refine zA1 fun W42 hW => ?_;obtain ⟨bku, hbu⟩ : ∃ b, w41.heap.size = b := ⟨_, rfl⟩;rw [hbu];have ltu := Bt.lt;rw [hbu] at ltu;have lau := Ba.lt;rw [hbu] at lau;have fu := hw.size;rw [hbu] at fu;have Bu : Box W42 (bku) [.int .i64 u.x, .int .i64 u.y] 30 := by rw [hW, ← hbu]; exact (Box.new rfl).old _
     have Bv : Box W42 (bku + 1) [.int .i64 v.x, .int .i64 v.y] 30 := by rw [hW, ← hbu]; exact Box.new (by simp)
     replace Bt : Box W42 (w.heap.size) [.int .i64 T.A.x, .int .i64 T.A.y, .int .i64 T.B.x, .int .i64 T.B.y, .int .i64 T.C.x, .int .i64 T.C.y] 38 := by rw [hW]; exact ((Bt).old _).old _
     replace Ba : Box W42 (w.heap.size + 1) [.int .i64 p.x, .int .i64 p.y] 30 := by rw [hW]; exact ((Ba).old _).old _
     replace hw : Below w.heap.size w W42 := by have hl := hw.size; rw [hW]; go_grown
     clear hW hbu;refine (c2 _ (Bm.ee hw) (Hm.ee hw)).mono ?_;rintro e w43 ⟨rfl, hb⟩;clear Ft Fa;obtain ⟨Bt, Ba, Bu, Bv, hw, -⟩ := X4 Bt Ba Bu Bv hw hb;clear hb;cases z with
     | false =>
      have Ft := Bt.f;have Fa := Ba.f;have Fu := Bu.f;have Fv := Bv.f;go_wp2_with fail
      go_ret
      refine ⟨by rw [zDf (by omega : 2 + 1 ≤ 3) HN.out]; rfl, ?_⟩;have hl := hw.size;go_grown
     | true =>
      have Ft := Bt.f;have Fa := Ba.f;have Fu := Bu.f;have Fv := Bv.f;go_wp2_with fail;refine ⟨⟨3, 3, by omega, rfl, Lib.hid rfl, HN, by first | exact Bt.old _ | exact (Bt.old _).old _, by first | exact Ba.old _ | exact (Ba.old _).old _, ?_⟩, by decide⟩;have hl := hw.size;go_grown
    | false =>
     have e1 : peqI u.x u.y p.x p.y = false := ea;have e2 : peqI v.x v.y p.x p.y = false := eb;rw [e1, e2] at HN;simp only [Bool.not_false, Bool.true_and, Bool.true_or] at HN;have Ft := Bt.f;have Fa := Ba.f;go_wp2_with fail;refine ⟨⟨3, 3, by omega, rfl, Lib.hid rfl, HN, by first | exact Bt.old _ | exact (Bt.old _).old _, by first | exact Ba.old _ | exact (Ba.old _).old _, ?_⟩, by decide⟩;have hl := hw.size;go_grown
  ·have hj : j = 3 := by simpa using hj.out
   subst hj;go_wp2_with fail
   go_ret
   exact ⟨by rw [HF.out]; rfl, hw⟩
def starW (E : Es) (p : Pt) : List Tri3 := srt cmpT (heads (isCb p) E)
def closedW (E : Es) (p : Pt) : Bool := (starW E p).all (fun T => flkK E T p 3) && decide (0 < (starW E p).length)
theorem zF3 (mb b : Nat) (E : Es) (p : Pt) (hE : E.length ≤ 1000000) (hok : ∀ T ∈ starW E p, okT T) (w : World) (Bm : Box w mb [.map (some b)] 89) (Hm : HoldsMap eW eT okW w b E) :
    Calls Tryz.prog 18 #[.pointer (some ⟨mb, 0, none⟩), .agg #[.int .i64 p.x, .int .i64 p.y]] w fun e w' => e = .returned (.bool (closedW E p)) ∧ Below w.heap.size w w' := by
 have cs := fun W B H => zFx mb b E p hE W B H;have hc : closedW E p = ((starW E p).all (fun T => flkK E T p 3) && decide (0 < (starW E p).length)) := rfl;generalize closedW E p = r at *
 replace hc := Lib.hid hc
 change ∀ W, _ → _ → Calls _ _ _ W fun e w' => ∃ a cap, e = .returned (.slice a (starW E p).length cap) ∧ RowAt cT 6 w' a (starW E p) ∧ Below W.heap.size W w' at cs
 have hlen : (starW E p).length ≤ E.length := by unfold starW; rw [(zAg _).length_eq]; exact zBo _ _
 generalize starW E p = L at *
 obtain ⟨n, hn⟩ : ∃ n, L.length = n := ⟨_, rfl⟩;rw [hn] at cs hc hlen;replace hn := Lib.hid hn;have hn1 : n ≤ 1000000 := by omega
 clear hlen hE
 go_enter Tryz.func18, Tryz.ntmps18
 go_wp2_with fail;refine zA1 fun W1 hW => ?_;obtain ⟨Bp, hw⟩ := N1 hW;clear hW;refine (cs _ (Bm.ee hw) (Hm.ee hw)).mono ?_;rintro e w2 ⟨a0, c0, rfl, h0, hb⟩;obtain ⟨Bp, hw, Fp⟩ := X1 Bp hw hb;clear hb;go_wp2_with fail;clear Fp
 go_loopw [13] (fun v wr => ∃ k : Nat, v = .int .i64 k ∧ k ≤ n ∧ Hid (∀ T ∈ L.take k, flkK E T p 3 = true) ∧ Box wr (w.heap.size) [.int .i64 p.x, .int .i64 p.y] 30 ∧ Below w.heap.size w wr ∧ Below w2.heap.size w2 wr) (fun v _ => n - (intOf v).toNat)
 case atStart => exact ⟨0, rfl, Nat.zero_le _, Lib.hid (by simp), Bp, hw, Below.refl _ _⟩
 case round =>
  clear Bp hw;obtain ⟨k, rfl, hk, HF, Bp, hw, hw0⟩ := hrel;by_cases hlt : k < n
  case neg =>
   have hkn : k = n := by omega
   subst hkn;cases hz : decide (0 < k) with
   | true =>
    have hz' : 0 < k := by simpa using hz
    go_wp2_with fail
    go_ret
    refine ⟨?_, hw⟩;rw [hc.out, hz, show L.all (fun T => flkK E T p 3) = true from by rw [List.all_eq_true]; intro T hT; exact HF.out T (by rw [List.take_of_length_le (by rw [hn.out]; omega)]; exact hT)];simp
   | false =>
    obtain rfl : k = 0 := by simpa using hz
    go_wp2_with fail
    go_ret
    refine ⟨?_, hw⟩;rw [hc.out, hz, Bool.and_false];rfl
  case pos =>
   have hlk : k < L.length := hn.out ▸ hlt;have HN := Lib.hid (show L.take (k + 1) = L.take k ++ [L[k]] from List.take_succ_eq_append_getElem hlk);have hT : okT L[k] := hok _ (List.getElem_mem hlk);have hM : L[k] ∈ L := List.getElem_mem hlk;obtain ⟨ad, A, ea, eA, hA0⟩ := h0.six hlk;have hA := hA0.ee hw0;generalize L[k] = T at *
   have hAw : A.block < wr.heap.size := hA.1;clear hA0;obtain ⟨t6, t0, t1, t2, t3, t4, t5⟩ := hA.f;have Fp := Bp.f;go_wp2_with fail;refine zA1 fun W9 hW => ?_;have h9 : Below wr.heap.size wr W9 := by rw [hW]; go_grown
   clear hW;refine (flanked_any mb b E T hT p _ (Bm.ext ((upB hw h9)) rfl) (Hm.ext ((upB hw h9)) rfl)).mono ?_;rintro e w8 ⟨rfl, hb⟩;have h8 : Below wr.heap.size wr w8 := (upB h9 hb);clear hb h9 t6 t0 t1 t2 t3 t4 t5 Fp;replace Bp := Bp.ee h8;have hw8 := (upB hw h8);have hw08 := (upB hw0 h8);cases hf : flkK E T p 3 with
   | false =>
    go_wp2_with fail
    go_ret
    refine ⟨?_, hw8⟩;rw [hc.out, show L.all (fun T => flkK E T p 3) = false from by rw [List.all_eq_false]; exact ⟨T, hM, by rw [hf]; decide⟩];rfl
   | true =>
    go_wp2_with fail;rw [← ea]
    go_roundw
    case rel =>
     refine ⟨k + 1, by go_num, by omega, Lib.hid ?_, Bp, hw8, hw08⟩;intro T2 h2;rw [HN.out, List.mem_append] at h2;rcases h2 with h2 | h2
     ·exact HF.out T2 h2
     ·rw [List.mem_singleton] at h2;rw [h2]; exact hf
    case measure => simp [intOf]; omega
attribute [local go_sem] rmap_nil
def rflk1 (E : Es) (p x y : Pt) : Bool := !((peqI x.x x.y p.x p.y || peqI y.x y.y p.x p.y) && !(lftE E y x).2)
def crN (T : Tri3) : Nat → Pt
 | 0 => T.A
 | 1 => T.B
 | 2 => T.C
 | _ => T.A
def rflkK (E : Es) (T : Tri3) (p : Pt) : Nat → Bool
 | 0 => true
 | k + 1 => rflkK E T p k && rflk1 E p (crN T k) (crN T (k + 1))
theorem zCj {E : Es} {T : Tri3} {p : Pt} : ∀ {k n : Nat}, k ≤ n → rflkK E T p k = false → rflkK E T p n = false
 | k, 0, h, e => by obtain rfl : k = 0 := by omega
                    exact e
 | k, n + 1, h, e => by
  by_cases hk : k = n + 1
  ·rw [← hk]; exact e
  ·unfold rflkK; rw [zCj (by omega : k ≤ n) e]; rfl
theorem rclosed_any (mb b : Nat) (E : Es) (p : Pt) (hE : E.length ≤ 1000000) (hok : ∀ T ∈ starE p E, okT T) (w : World) (Bm : Box w mb [.map (some b)] 41) (Hm : HoldsMap eW eT okW w b E) :
    Calls Tryz.prog 28 #[.pointer (some ⟨mb, 0, none⟩), .agg #[.int .i64 p.x, .int .i64 p.y]] w fun e w' => e = .returned (.bool ((srt cmpT (starE p E)).all (fun T => rflkK E T p 3) && decide (0 < (srt cmpT (starE p E)).length))) ∧ Below w.heap.size w w' := by
 have cs := fun W B H => zBn mb b E p hE W B H;have hlen : (srt cmpT (starE p E)).length ≤ E.length := by rw [(zAg _).length_eq]; exact zG1 _ _
 replace hok : ∀ T ∈ srt cmpT (starE p E), okT T := fun T h => hok T ((zAg _).mem_iff.1 h);generalize srt cmpT (starE p E) = L at *
 obtain ⟨r, hc⟩ : ∃ r, r = (L.all (fun T => rflkK E T p 3) && decide (0 < L.length)) := ⟨_, rfl⟩;rw [← hc];replace hc := Lib.hid hc;obtain ⟨n, hn⟩ : ∃ n, L.length = n := ⟨_, rfl⟩;rw [hn] at cs hc hlen;replace hn := Lib.hid hn;have hn1 : n ≤ 1000000 := by omega
 clear hlen hE;have ce := zCc
 go_enter Tryz.func28, Tryz.ntmps28
 go_wp2_with fail;refine zA1 fun W1 hW => ?_;obtain ⟨Bp, hw⟩ := N1 hW;clear hW;refine (cs _ (Bm.ee hw) (Hm.ee hw)).mono ?_;rintro e w2 ⟨a0, c0, rfl, h0, hb⟩;obtain ⟨Bp, hw, -⟩ := X1 Bp hw hb;clear hb;have hwA := hw;clear hw;have hw : Below w2.heap.size w2 w2 := Below.refl _ _;obtain ⟨xp, yp, zp, vp⟩ := Bp.f;go_wp2_with fail;clear xp yp zp vp
 go_loopw [6] (fun v wr => ∃ i : Nat, v = .int .i64 i ∧ i ≤ n ∧ Hid (∀ T ∈ L.take i, rflkK E T p 3 = true) ∧ Box wr (w.heap.size) [.int .i64 p.x, .int .i64 p.y] 30 ∧ Below w2.heap.size w2 wr) (fun v _ => n - (intOf v).toNat)
 case atStart => exact ⟨0, rfl, Nat.zero_le _, Lib.hid (by simp), Bp, hw⟩
 case round =>
  clear Bp hw;obtain ⟨i, rfl, hi, HF, Bp, hw⟩ := hrel;by_cases hlt : i < n
  case neg =>
   have hkn : i = n := by omega
   subst hkn;cases hz : decide (0 < i) with
   | true =>
    have hz' : 0 < i := by simpa using hz
    go_wp2_with fail
    go_ret
    refine ⟨?_, (upB hwA hw)⟩;rw [hc.out, hz, show L.all (fun T => rflkK E T p 3) = true from by rw [List.all_eq_true]; intro T hT; exact HF.out T (by rw [List.take_of_length_le (by rw [hn.out]; omega)]; exact hT)];simp
   | false =>
    obtain rfl : i = 0 := by simpa using hz
    go_wp2_with fail
    go_ret
    refine ⟨?_, (upB hwA hw)⟩;rw [hc.out, hz, Bool.and_false];rfl
  case pos =>
   have hlk : i < L.length := hn.out ▸ hlt;have HN := Lib.hid (show L.take (i + 1) = L.take i ++ [L[i]] from List.take_succ_eq_append_getElem hlk);have hT : okT L[i] := hok _ (List.getElem_mem hlk);have hM : L[i] ∈ L := List.getElem_mem hlk;obtain ⟨ad, A, ea, eA, hA0⟩ := h0.six hlk;have hA := hA0.ee hw;generalize L[i] = T at *
   have hAw : A.block < wr.heap.size := hA.1;clear hA0;obtain ⟨t6, t0, t1, t2, t3, t4, t5⟩ := hA.f;obtain ⟨xp, yp, zp, vp⟩ := Bp.f;go_wp2_with fail;refine (ce T _).mono ?_;rintro e w8 ⟨rfl, hb⟩;have h8 : Below wr.heap.size wr w8 := hb;clear hb t6 t0 t1 t2 t3 t4 t5 xp yp zp vp;replace Bp := Bp.ee h8;replace hw := upB hw h8;clear h8;go_wp2_with fail;refine zA3 fun W51 hW => ?_;obtain ⟨bke, hbe⟩ : ∃ b, w8.heap.size = b := ⟨_, rfl⟩;rw [hbe];obtain ⟨lpe, fe, Be, Bp, hw⟩ := M1 hW hbe Bp hw;clear hW hbe
   go_loopw [8] (fun v wi => ∃ (k : Nat) (j : Int), k ≤ 3 ∧ v = .int .i64 j ∧ Hid (j = k) ∧ Hid (rflkK E T p k = true) ∧ Box wi (w.heap.size) [.int .i64 p.x, .int .i64 p.y] 30 ∧ Box wi (bke) [.int .i64 T.A.x, .int .i64 T.A.y, .int .i64 T.B.x, .int .i64 T.B.y, .int .i64 T.B.x, .int .i64 T.B.y, .int .i64 T.C.x, .int .i64 T.C.y, .int .i64 T.C.x, .int .i64 T.C.y, .int .i64 T.A.x, .int .i64 T.A.y] 95 ∧ Below w2.heap.size w2 wi) (fun v _ => 3 - (intOf v).toNat)
   case atStart => exact ⟨0, 0, by omega, rfl, Lib.hid rfl, Lib.hid rfl, Bp, Be, hw⟩
   case round =>
    clear Bp Be hw;obtain ⟨k, j, hk, rfl, hj, HK, Bp, Be, hw⟩ := hrel;have hk' : k = 0 ∨ k = 1 ∨ k = 2 ∨ k = 3 := by omega
    rcases hk' with rfl | rfl | rfl | rfl
    ·have hj : j = 0 := by simpa using hj.out
     subst hj;have HS := Lib.hid (show rflkK E T p (0 + 1) = (rflkK E T p 0 && rflk1 E p T.A T.B) from rfl);unfold rflk1 at HS;rw [HK.out, Bool.true_and] at HS;have cl := fun W B H => zAa mb b E T.B T.A ⟨hT.2.1, hT.1⟩ W B H;generalize lftE E T.B T.A = yz at *
     obtain ⟨S, z⟩ := yz;dsimp only at HS cl;obtain ⟨xp, yp, zp, vp⟩ := Bp.f;obtain ⟨xe, ye, ze, ve⟩ := Be.f;go_wp2_with fail;clear xp yp zp vp xe ye ze ve;have d1 : ∀ d os, Calls Tryz.prog 65 #[.pointer (some ⟨mb, 0, none⟩), .agg #[.int .i64 T.B.x, .int .i64 T.B.y], .agg #[.int .i64 T.A.x, .int .i64 T.A.y]] (grow (redrawn wr d) os) fun e w' => e = .returned (.tuple #[.agg #[.int .i64 S.A.x, .int .i64 S.A.y, .int .i64 S.B.x, .int .i64 S.B.y, .int .i64 S.C.x, .int .i64 S.C.y], .bool z]) ∧ Below (grow (redrawn wr d) os).heap.size (grow (redrawn wr d) os) w' := fun d os => cl _ ((Bm.ext ((upB hwA hw)) rfl).ext (below_regrown wr d os) rfl) ((Hm.ext ((upB hwA hw)) rfl).ext (below_regrown wr d os) rfl);have gp := Bp.cells;have ge := Be.cells;refine zA5 13 9 40 [.int .i64 S.A.x, .int .i64 S.A.y, .int .i64 S.B.x, .int .i64 S.B.y, .int .i64 S.C.x, .int .i64 S.C.y] (zs := [.int .i64 0, .int .i64 0, .int .i64 0, .int .i64 0, .int .i64 0, .int .i64 0]) (eff := eff6 (.int .i64 S.A.x) (.int .i64 S.A.y) (.int .i64 S.B.x) (.int .i64 S.B.y) (.int .i64 S.C.x) (.int .i64 S.C.y)) zAd rfl rfl rfl rfl rfl rfl rfl (by simp) (fun ρ W => by simp [execOp, go_sem]; rfl) (by kernel_rfl) (by as_aux_lemma => kernel_rfl) (C := fun w' => ∃ p : Regrown, w' = grow (redrawn wr p.d) p.os) rgB ?_ (fun ρ W b e1 e2 hB => by obtain ⟨x, y, _, _⟩ := hB.f; simp [execOp, go_sem, e1, e2, x, y, eff6]);simp only [tK1, tK0, dP1, dP0];repeat (first | (refine zA0 (Eq.refl false) ?_; simp only [Act.put, sT2, sT1, sT0]) | (refine rWalk_step (fun K hK => ?_); go_simp; first | (refine hK _ ?_; clear hK K) | (apply Exists.intro; refine ⟨fun _ => ?_, hK _ ?_⟩; (first | with_reducible exact toExtD d1 _ _); clear hK K)))
     refine rWalk_nil ⟨rfl, ?_⟩;intro w61 bks hb h1b h2b Bs;have lps := Bp.lt;have les := Be.lt;have hw0z := hw.size;clear gp ge;obtain ⟨Bp, Be, hw, -⟩ := X2 Bp Be hw hb;have fs := h1b;have hwz : w2.heap.size ≤ wr.heap.size := hw0z;clear hb h1b h2b hw0z;simp only [Act.put];clear d1 cl;obtain ⟨xp, yp, zp, vp⟩ := Bp.f;obtain ⟨xe, ye, ze, ve⟩ := Be.f;obtain ⟨xs, ys, zs, vs⟩ := Bs.f;go_wp2_with fail;clear xp yp zp vp xe ye ze ve xs ys zs vs;cases fa : peqI T.A.x T.A.y p.x p.y with
     | true =>
      cases z with
      | true =>
       have HV := Lib.hid (show rflkK E T p (0 + 1) = true by rw [HS.out, fa]; rfl);clear HS;obtain ⟨xp, yp, zp, vp⟩ := Bp.f;obtain ⟨xe, ye, ze, ve⟩ := Be.f;obtain ⟨xs, ys, zs, vs⟩ := Bs.f;have gp := Bp.cells;have ge := Be.cells;have gs := Bs.cells;refine wrt 17 (by kernel_rfl) (by kernel_rfl) ?_;simp only [tK1, tK0, dP1, dP0];repeat (first | (refine zA0 (Eq.refl false) ?_; simp only [Act.put, sT2, sT1, sT0]) | (refine rWalk_step (fun K hK => ?_); go_simp; refine hK _ ?_; clear hK K))
       refine rWalk_nil ?_;intro w62 hb;clear gp ge gs;clear xp yp zp vp xe ye ze ve xs ys zs vs;obtain ⟨Bp, Be, Bs, hw, -⟩ := X3 Bp Be Bs hw hb;obtain ⟨xp, yp, zp, vp⟩ := Bp.f;obtain ⟨xe, ye, ze, ve⟩ := Be.f;obtain ⟨xs, ys, zs, vs⟩ := Bs.f;go_wp2_with fail
       go_roundw
       case rel => exact ⟨1, 1, by omega, by first | rfl | go_num, Lib.hid rfl, HV, Bp, Be, hw⟩
       case measure => simp [intOf]
      | false =>
       have HV := Lib.hid (show rflkK E T p (0 + 1) = false by rw [HS.out, fa]; rfl);clear HS;obtain ⟨xp, yp, zp, vp⟩ := Bp.f;obtain ⟨xe, ye, ze, ve⟩ := Be.f;obtain ⟨xs, ys, zs, vs⟩ := Bs.f;have gp := Bp.cells;have ge := Be.cells;have gs := Bs.cells;refine wrt 17 (by kernel_rfl) (by kernel_rfl) ?_;simp only [tK1, tK0, dP1, dP0];repeat (first | (refine zA0 (Eq.refl false) ?_; simp only [Act.put, sT2, sT1, sT0]) | (refine rWalk_step (fun K hK => ?_); go_simp; refine hK _ ?_; clear hK K))
       refine rWalk_nil ?_;intro w62 hb;clear gp ge gs;clear xp yp zp vp xe ye ze ve xs ys zs vs;obtain ⟨Bp, Be, Bs, hw, -⟩ := X3 Bp Be Bs hw hb;obtain ⟨xp, yp, zp, vp⟩ := Bp.f;obtain ⟨xe, ye, ze, ve⟩ := Be.f;obtain ⟨xs, ys, zs, vs⟩ := Bs.f;go_wp2_with fail
       go_ret
       refine ⟨?_, (upB hwA hw)⟩;rw [hc.out, show L.all (fun T => rflkK E T p 3) = false from by rw [List.all_eq_false]; exact ⟨T, hM, by rw [zCj (by omega) HV.out]; decide⟩];rfl
     | false =>
      cases fb : peqI T.B.x T.B.y p.x p.y with
      | true =>
       cases z with
       | true =>
        have HV := Lib.hid (show rflkK E T p (0 + 1) = true by rw [HS.out, fa, fb]; rfl);clear HS;obtain ⟨xp, yp, zp, vp⟩ := Bp.f;obtain ⟨xe, ye, ze, ve⟩ := Be.f;obtain ⟨xs, ys, zs, vs⟩ := Bs.f;have gp := Bp.cells;have ge := Be.cells;have gs := Bs.cells;refine wrt 17 (by kernel_rfl) (by kernel_rfl) ?_;simp only [tK1, tK0, dP1, dP0];repeat (first | (refine zA0 (Eq.refl false) ?_; simp only [Act.put, sT2, sT1, sT0]) | (refine rWalk_step (fun K hK => ?_); go_simp; refine hK _ ?_; clear hK K))
        refine rWalk_nil ?_;intro w62 hb;clear gp ge gs;clear xp yp zp vp xe ye ze ve xs ys zs vs;obtain ⟨Bp, Be, Bs, hw, -⟩ := X3 Bp Be Bs hw hb;obtain ⟨xp, yp, zp, vp⟩ := Bp.f;obtain ⟨xe, ye, ze, ve⟩ := Be.f;obtain ⟨xs, ys, zs, vs⟩ := Bs.f;go_wp2_with fail
        go_roundw
        case rel => exact ⟨1, 1, by omega, by first | rfl | go_num, Lib.hid rfl, HV, Bp, Be, hw⟩
        case measure => simp [intOf]
       | false =>
        have HV := Lib.hid (show rflkK E T p (0 + 1) = false by rw [HS.out, fa, fb]; rfl);clear HS;obtain ⟨xp, yp, zp, vp⟩ := Bp.f;obtain ⟨xe, ye, ze, ve⟩ := Be.f;obtain ⟨xs, ys, zs, vs⟩ := Bs.f;have gp := Bp.cells;have ge := Be.cells;have gs := Bs.cells;refine wrt 17 (by kernel_rfl) (by kernel_rfl) ?_;simp only [tK1, tK0, dP1, dP0];repeat (first | (refine zA0 (Eq.refl false) ?_; simp only [Act.put, sT2, sT1, sT0]) | (refine rWalk_step (fun K hK => ?_); go_simp; refine hK _ ?_; clear hK K))
        refine rWalk_nil ?_;intro w62 hb;clear gp ge gs;clear xp yp zp vp xe ye ze ve xs ys zs vs;obtain ⟨Bp, Be, Bs, hw, -⟩ := X3 Bp Be Bs hw hb;obtain ⟨xp, yp, zp, vp⟩ := Bp.f;obtain ⟨xe, ye, ze, ve⟩ := Be.f;obtain ⟨xs, ys, zs, vs⟩ := Bs.f;go_wp2_with fail
        go_ret
        refine ⟨?_, (upB hwA hw)⟩;rw [hc.out, show L.all (fun T => rflkK E T p 3) = false from by rw [List.all_eq_false]; exact ⟨T, hM, by rw [zCj (by omega) HV.out]; decide⟩];rfl
      | false =>
       have HV := Lib.hid (show rflkK E T p (0 + 1) = true by rw [HS.out, fa, fb]; rfl);clear HS;obtain ⟨xp, yp, zp, vp⟩ := Bp.f;obtain ⟨xe, ye, ze, ve⟩ := Be.f;obtain ⟨xs, ys, zs, vs⟩ := Bs.f;have gp := Bp.cells;have ge := Be.cells;have gs := Bs.cells;refine wrt 17 (by kernel_rfl) (by kernel_rfl) ?_;simp only [tK1, tK0, dP1, dP0];repeat (first | (refine zA0 (Eq.refl false) ?_; simp only [Act.put, sT2, sT1, sT0]) | (refine rWalk_step (fun K hK => ?_); go_simp; refine hK _ ?_; clear hK K))
       refine rWalk_nil ?_;intro w62 hb;clear gp ge gs;clear xp yp zp vp xe ye ze ve xs ys zs vs;obtain ⟨Bp, Be, Bs, hw, -⟩ := X3 Bp Be Bs hw hb;obtain ⟨xp, yp, zp, vp⟩ := Bp.f;obtain ⟨xe, ye, ze, ve⟩ := Be.f;obtain ⟨xs, ys, zs, vs⟩ := Bs.f;go_wp2_with fail
       go_roundw
       case rel => exact ⟨1, 1, by omega, by first | rfl | go_num, Lib.hid rfl, HV, Bp, Be, hw⟩
       case measure => simp [intOf]
    ·have hj : j = 1 := by simpa using hj.out
     subst hj;have HS := Lib.hid (show rflkK E T p (1 + 1) = (rflkK E T p 1 && rflk1 E p T.B T.C) from rfl);unfold rflk1 at HS;rw [HK.out, Bool.true_and] at HS;have cl := fun W B H => zAa mb b E T.C T.B ⟨hT.2.2, hT.2.1⟩ W B H;generalize lftE E T.C T.B = yz at *
     obtain ⟨S, z⟩ := yz;dsimp only at HS cl;obtain ⟨xp, yp, zp, vp⟩ := Bp.f;obtain ⟨xe, ye, ze, ve⟩ := Be.f;go_wp2_with fail;clear xp yp zp vp xe ye ze ve;have d1 : ∀ d os, Calls Tryz.prog 65 #[.pointer (some ⟨mb, 0, none⟩), .agg #[.int .i64 T.C.x, .int .i64 T.C.y], .agg #[.int .i64 T.B.x, .int .i64 T.B.y]] (grow (redrawn wr d) os) fun e w' => e = .returned (.tuple #[.agg #[.int .i64 S.A.x, .int .i64 S.A.y, .int .i64 S.B.x, .int .i64 S.B.y, .int .i64 S.C.x, .int .i64 S.C.y], .bool z]) ∧ Below (grow (redrawn wr d) os).heap.size (grow (redrawn wr d) os) w' := fun d os => cl _ ((Bm.ext ((upB hwA hw)) rfl).ext (below_regrown wr d os) rfl) ((Hm.ext ((upB hwA hw)) rfl).ext (below_regrown wr d os) rfl);have gp := Bp.cells;have ge := Be.cells;refine zA5 13 9 40 [.int .i64 S.A.x, .int .i64 S.A.y, .int .i64 S.B.x, .int .i64 S.B.y, .int .i64 S.C.x, .int .i64 S.C.y] (zs := [.int .i64 0, .int .i64 0, .int .i64 0, .int .i64 0, .int .i64 0, .int .i64 0]) (eff := eff6 (.int .i64 S.A.x) (.int .i64 S.A.y) (.int .i64 S.B.x) (.int .i64 S.B.y) (.int .i64 S.C.x) (.int .i64 S.C.y)) zAd rfl rfl rfl rfl rfl rfl rfl (by simp) (fun ρ W => by simp [execOp, go_sem]; rfl) (by kernel_rfl) (by as_aux_lemma => kernel_rfl) (C := fun w' => ∃ p : Regrown, w' = grow (redrawn wr p.d) p.os) rgB ?_ (fun ρ W b e1 e2 hB => by obtain ⟨x, y, _, _⟩ := hB.f; simp [execOp, go_sem, e1, e2, x, y, eff6]);simp only [tK1, tK0, dP1, dP0];repeat (first | (refine zA0 (Eq.refl false) ?_; simp only [Act.put, sT2, sT1, sT0]) | (refine rWalk_step (fun K hK => ?_); go_simp; first | (refine hK _ ?_; clear hK K) | (apply Exists.intro; refine ⟨fun _ => ?_, hK _ ?_⟩; (first | with_reducible exact toExtD d1 _ _); clear hK K)))
     refine rWalk_nil ⟨rfl, ?_⟩;intro w61 bks hb h1b h2b Bs;have lps := Bp.lt;have les := Be.lt;have hw0z := hw.size;clear gp ge;obtain ⟨Bp, Be, hw, -⟩ := X2 Bp Be hw hb;have fs := h1b;have hwz : w2.heap.size ≤ wr.heap.size := hw0z;clear hb h1b h2b hw0z;simp only [Act.put];clear d1 cl;obtain ⟨xp, yp, zp, vp⟩ := Bp.f;obtain ⟨xe, ye, ze, ve⟩ := Be.f;obtain ⟨xs, ys, zs, vs⟩ := Bs.f;go_wp2_with fail;clear xp yp zp vp xe ye ze ve xs ys zs vs;cases fa : peqI T.B.x T.B.y p.x p.y with
     | true =>
      cases z with
      | true =>
       have HV := Lib.hid (show rflkK E T p (1 + 1) = true by rw [HS.out, fa]; rfl);clear HS;obtain ⟨xp, yp, zp, vp⟩ := Bp.f;obtain ⟨xe, ye, ze, ve⟩ := Be.f;obtain ⟨xs, ys, zs, vs⟩ := Bs.f;have gp := Bp.cells;have ge := Be.cells;have gs := Bs.cells;refine wrt 17 (by kernel_rfl) (by kernel_rfl) ?_;simp only [tK1, tK0, dP1, dP0];repeat (first | (refine zA0 (Eq.refl false) ?_; simp only [Act.put, sT2, sT1, sT0]) | (refine rWalk_step (fun K hK => ?_); go_simp; refine hK _ ?_; clear hK K))
       refine rWalk_nil ?_;intro w62 hb;clear gp ge gs;clear xp yp zp vp xe ye ze ve xs ys zs vs;obtain ⟨Bp, Be, Bs, hw, -⟩ := X3 Bp Be Bs hw hb;obtain ⟨xp, yp, zp, vp⟩ := Bp.f;obtain ⟨xe, ye, ze, ve⟩ := Be.f;obtain ⟨xs, ys, zs, vs⟩ := Bs.f;go_wp2_with fail
       go_roundw
       case rel => exact ⟨2, 2, by omega, by first | rfl | go_num, Lib.hid rfl, HV, Bp, Be, hw⟩
       case measure => simp [intOf]
      | false =>
       have HV := Lib.hid (show rflkK E T p (1 + 1) = false by rw [HS.out, fa]; rfl);clear HS;obtain ⟨xp, yp, zp, vp⟩ := Bp.f;obtain ⟨xe, ye, ze, ve⟩ := Be.f;obtain ⟨xs, ys, zs, vs⟩ := Bs.f;have gp := Bp.cells;have ge := Be.cells;have gs := Bs.cells;refine wrt 17 (by kernel_rfl) (by kernel_rfl) ?_;simp only [tK1, tK0, dP1, dP0];repeat (first | (refine zA0 (Eq.refl false) ?_; simp only [Act.put, sT2, sT1, sT0]) | (refine rWalk_step (fun K hK => ?_); go_simp; refine hK _ ?_; clear hK K))
       refine rWalk_nil ?_;intro w62 hb;clear gp ge gs;clear xp yp zp vp xe ye ze ve xs ys zs vs;obtain ⟨Bp, Be, Bs, hw, -⟩ := X3 Bp Be Bs hw hb;obtain ⟨xp, yp, zp, vp⟩ := Bp.f;obtain ⟨xe, ye, ze, ve⟩ := Be.f;obtain ⟨xs, ys, zs, vs⟩ := Bs.f;go_wp2_with fail
       go_ret
       refine ⟨?_, (upB hwA hw)⟩;rw [hc.out, show L.all (fun T => rflkK E T p 3) = false from by rw [List.all_eq_false]; exact ⟨T, hM, by rw [zCj (by omega) HV.out]; decide⟩];rfl
     | false =>
      cases fb : peqI T.C.x T.C.y p.x p.y with
      | true =>
       cases z with
       | true =>
        have HV := Lib.hid (show rflkK E T p (1 + 1) = true by rw [HS.out, fa, fb]; rfl);clear HS;obtain ⟨xp, yp, zp, vp⟩ := Bp.f;obtain ⟨xe, ye, ze, ve⟩ := Be.f;obtain ⟨xs, ys, zs, vs⟩ := Bs.f;have gp := Bp.cells;have ge := Be.cells;have gs := Bs.cells;refine wrt 17 (by kernel_rfl) (by kernel_rfl) ?_;simp only [tK1, tK0, dP1, dP0];repeat (first | (refine zA0 (Eq.refl false) ?_; simp only [Act.put, sT2, sT1, sT0]) | (refine rWalk_step (fun K hK => ?_); go_simp; refine hK _ ?_; clear hK K))
        refine rWalk_nil ?_;intro w62 hb;clear gp ge gs;clear xp yp zp vp xe ye ze ve xs ys zs vs;obtain ⟨Bp, Be, Bs, hw, -⟩ := X3 Bp Be Bs hw hb;obtain ⟨xp, yp, zp, vp⟩ := Bp.f;obtain ⟨xe, ye, ze, ve⟩ := Be.f;obtain ⟨xs, ys, zs, vs⟩ := Bs.f;go_wp2_with fail
        go_roundw
        case rel => exact ⟨2, 2, by omega, by first | rfl | go_num, Lib.hid rfl, HV, Bp, Be, hw⟩
        case measure => simp [intOf]
       | false =>
        have HV := Lib.hid (show rflkK E T p (1 + 1) = false by rw [HS.out, fa, fb]; rfl);clear HS;obtain ⟨xp, yp, zp, vp⟩ := Bp.f;obtain ⟨xe, ye, ze, ve⟩ := Be.f;obtain ⟨xs, ys, zs, vs⟩ := Bs.f;have gp := Bp.cells;have ge := Be.cells;have gs := Bs.cells;refine wrt 17 (by kernel_rfl) (by kernel_rfl) ?_;simp only [tK1, tK0, dP1, dP0];repeat (first | (refine zA0 (Eq.refl false) ?_; simp only [Act.put, sT2, sT1, sT0]) | (refine rWalk_step (fun K hK => ?_); go_simp; refine hK _ ?_; clear hK K))
        refine rWalk_nil ?_;intro w62 hb;clear gp ge gs;clear xp yp zp vp xe ye ze ve xs ys zs vs;obtain ⟨Bp, Be, Bs, hw, -⟩ := X3 Bp Be Bs hw hb;obtain ⟨xp, yp, zp, vp⟩ := Bp.f;obtain ⟨xe, ye, ze, ve⟩ := Be.f;obtain ⟨xs, ys, zs, vs⟩ := Bs.f;go_wp2_with fail
        go_ret
        refine ⟨?_, (upB hwA hw)⟩;rw [hc.out, show L.all (fun T => rflkK E T p 3) = false from by rw [List.all_eq_false]; exact ⟨T, hM, by rw [zCj (by omega) HV.out]; decide⟩];rfl
      | false =>
       have HV := Lib.hid (show rflkK E T p (1 + 1) = true by rw [HS.out, fa, fb]; rfl);clear HS;obtain ⟨xp, yp, zp, vp⟩ := Bp.f;obtain ⟨xe, ye, ze, ve⟩ := Be.f;obtain ⟨xs, ys, zs, vs⟩ := Bs.f;have gp := Bp.cells;have ge := Be.cells;have gs := Bs.cells;refine wrt 17 (by kernel_rfl) (by kernel_rfl) ?_;simp only [tK1, tK0, dP1, dP0];repeat (first | (refine zA0 (Eq.refl false) ?_; simp only [Act.put, sT2, sT1, sT0]) | (refine rWalk_step (fun K hK => ?_); go_simp; refine hK _ ?_; clear hK K))
       refine rWalk_nil ?_;intro w62 hb;clear gp ge gs;clear xp yp zp vp xe ye ze ve xs ys zs vs;obtain ⟨Bp, Be, Bs, hw, -⟩ := X3 Bp Be Bs hw hb;obtain ⟨xp, yp, zp, vp⟩ := Bp.f;obtain ⟨xe, ye, ze, ve⟩ := Be.f;obtain ⟨xs, ys, zs, vs⟩ := Bs.f;go_wp2_with fail
       go_roundw
       case rel => exact ⟨2, 2, by omega, by first | rfl | go_num, Lib.hid rfl, HV, Bp, Be, hw⟩
       case measure => simp [intOf]
    ·have hj : j = 2 := by simpa using hj.out
     subst hj;have HS := Lib.hid (show rflkK E T p (2 + 1) = (rflkK E T p 2 && rflk1 E p T.C T.A) from rfl);unfold rflk1 at HS;rw [HK.out, Bool.true_and] at HS;have cl := fun W B H => zAa mb b E T.A T.C ⟨hT.1, hT.2.2⟩ W B H;generalize lftE E T.A T.C = yz at *
     obtain ⟨S, z⟩ := yz;dsimp only at HS cl;obtain ⟨xp, yp, zp, vp⟩ := Bp.f;obtain ⟨xe, ye, ze, ve⟩ := Be.f;go_wp2_with fail;clear xp yp zp vp xe ye ze ve;have d1 : ∀ d os, Calls Tryz.prog 65 #[.pointer (some ⟨mb, 0, none⟩), .agg #[.int .i64 T.A.x, .int .i64 T.A.y], .agg #[.int .i64 T.C.x, .int .i64 T.C.y]] (grow (redrawn wr d) os) fun e w' => e = .returned (.tuple #[.agg #[.int .i64 S.A.x, .int .i64 S.A.y, .int .i64 S.B.x, .int .i64 S.B.y, .int .i64 S.C.x, .int .i64 S.C.y], .bool z]) ∧ Below (grow (redrawn wr d) os).heap.size (grow (redrawn wr d) os) w' := fun d os => cl _ ((Bm.ext ((upB hwA hw)) rfl).ext (below_regrown wr d os) rfl) ((Hm.ext ((upB hwA hw)) rfl).ext (below_regrown wr d os) rfl);have gp := Bp.cells;have ge := Be.cells;refine zA5 13 9 40 [.int .i64 S.A.x, .int .i64 S.A.y, .int .i64 S.B.x, .int .i64 S.B.y, .int .i64 S.C.x, .int .i64 S.C.y] (zs := [.int .i64 0, .int .i64 0, .int .i64 0, .int .i64 0, .int .i64 0, .int .i64 0]) (eff := eff6 (.int .i64 S.A.x) (.int .i64 S.A.y) (.int .i64 S.B.x) (.int .i64 S.B.y) (.int .i64 S.C.x) (.int .i64 S.C.y)) zAd rfl rfl rfl rfl rfl rfl rfl (by simp) (fun ρ W => by simp [execOp, go_sem]; rfl) (by kernel_rfl) (by as_aux_lemma => kernel_rfl) (C := fun w' => ∃ p : Regrown, w' = grow (redrawn wr p.d) p.os) rgB ?_ (fun ρ W b e1 e2 hB => by obtain ⟨x, y, _, _⟩ := hB.f; simp [execOp, go_sem, e1, e2, x, y, eff6]);simp only [tK1, tK0, dP1, dP0];repeat (first | (refine zA0 (Eq.refl false) ?_; simp only [Act.put, sT2, sT1, sT0]) | (refine rWalk_step (fun K hK => ?_); go_simp; first | (refine hK _ ?_; clear hK K) | (apply Exists.intro; refine ⟨fun _ => ?_, hK _ ?_⟩; (first | with_reducible exact toExtD d1 _ _); clear hK K)))
     refine rWalk_nil ⟨rfl, ?_⟩;intro w61 bks hb h1b h2b Bs;have lps := Bp.lt;have les := Be.lt;have hw0z := hw.size;clear gp ge;obtain ⟨Bp, Be, hw, -⟩ := X2 Bp Be hw hb;have fs := h1b;have hwz : w2.heap.size ≤ wr.heap.size := hw0z;clear hb h1b h2b hw0z;simp only [Act.put];clear d1 cl;obtain ⟨xp, yp, zp, vp⟩ := Bp.f;obtain ⟨xe, ye, ze, ve⟩ := Be.f;obtain ⟨xs, ys, zs, vs⟩ := Bs.f;go_wp2_with fail;clear xp yp zp vp xe ye ze ve xs ys zs vs;cases fa : peqI T.C.x T.C.y p.x p.y with
     | true =>
      cases z with
      | true =>
       have HV := Lib.hid (show rflkK E T p (2 + 1) = true by rw [HS.out, fa]; rfl);clear HS;obtain ⟨xp, yp, zp, vp⟩ := Bp.f;obtain ⟨xe, ye, ze, ve⟩ := Be.f;obtain ⟨xs, ys, zs, vs⟩ := Bs.f;have gp := Bp.cells;have ge := Be.cells;have gs := Bs.cells;refine wrt 17 (by kernel_rfl) (by kernel_rfl) ?_;simp only [tK1, tK0, dP1, dP0];repeat (first | (refine zA0 (Eq.refl false) ?_; simp only [Act.put, sT2, sT1, sT0]) | (refine rWalk_step (fun K hK => ?_); go_simp; refine hK _ ?_; clear hK K))
       refine rWalk_nil ?_;intro w62 hb;clear gp ge gs;clear xp yp zp vp xe ye ze ve xs ys zs vs;obtain ⟨Bp, Be, Bs, hw, -⟩ := X3 Bp Be Bs hw hb;obtain ⟨xp, yp, zp, vp⟩ := Bp.f;obtain ⟨xe, ye, ze, ve⟩ := Be.f;obtain ⟨xs, ys, zs, vs⟩ := Bs.f;go_wp2_with fail
       go_roundw
       case rel => exact ⟨3, 3, by omega, by first | rfl | go_num, Lib.hid rfl, HV, Bp, Be, hw⟩
       case measure => simp [intOf]
      | false =>
       have HV := Lib.hid (show rflkK E T p (2 + 1) = false by rw [HS.out, fa]; rfl);clear HS;obtain ⟨xp, yp, zp, vp⟩ := Bp.f;obtain ⟨xe, ye, ze, ve⟩ := Be.f;obtain ⟨xs, ys, zs, vs⟩ := Bs.f;have gp := Bp.cells;have ge := Be.cells;have gs := Bs.cells;refine wrt 17 (by kernel_rfl) (by kernel_rfl) ?_;simp only [tK1, tK0, dP1, dP0];repeat (first | (refine zA0 (Eq.refl false) ?_; simp only [Act.put, sT2, sT1, sT0]) | (refine rWalk_step (fun K hK => ?_); go_simp; refine hK _ ?_; clear hK K))
       refine rWalk_nil ?_;intro w62 hb;clear gp ge gs;clear xp yp zp vp xe ye ze ve xs ys zs vs;obtain ⟨Bp, Be, Bs, hw, -⟩ := X3 Bp Be Bs hw hb;obtain ⟨xp, yp, zp, vp⟩ := Bp.f;obtain ⟨xe, ye, ze, ve⟩ := Be.f;obtain ⟨xs, ys, zs, vs⟩ := Bs.f;go_wp2_with fail
       go_ret
       refine ⟨?_, (upB hwA hw)⟩;rw [hc.out, show L.all (fun T => rflkK E T p 3) = false from by rw [List.all_eq_false]; exact ⟨T, hM, by rw [zCj (by omega) HV.out]; decide⟩];rfl
     | false =>
      cases fb : peqI T.A.x T.A.y p.x p.y with
      | true =>
       cases z with
       | true =>
        have HV := Lib.hid (show rflkK E T p (2 + 1) = true by rw [HS.out, fa, fb]; rfl);clear HS;obtain ⟨xp, yp, zp, vp⟩ := Bp.f;obtain ⟨xe, ye, ze, ve⟩ := Be.f;obtain ⟨xs, ys, zs, vs⟩ := Bs.f;have gp := Bp.cells;have ge := Be.cells;have gs := Bs.cells;refine wrt 17 (by kernel_rfl) (by kernel_rfl) ?_;simp only [tK1, tK0, dP1, dP0];repeat (first | (refine zA0 (Eq.refl false) ?_; simp only [Act.put, sT2, sT1, sT0]) | (refine rWalk_step (fun K hK => ?_); go_simp; refine hK _ ?_; clear hK K))
        refine rWalk_nil ?_;intro w62 hb;clear gp ge gs;clear xp yp zp vp xe ye ze ve xs ys zs vs;obtain ⟨Bp, Be, Bs, hw, -⟩ := X3 Bp Be Bs hw hb;obtain ⟨xp, yp, zp, vp⟩ := Bp.f;obtain ⟨xe, ye, ze, ve⟩ := Be.f;obtain ⟨xs, ys, zs, vs⟩ := Bs.f;go_wp2_with fail
        go_roundw
        case rel => exact ⟨3, 3, by omega, by first | rfl | go_num, Lib.hid rfl, HV, Bp, Be, hw⟩
        case measure => simp [intOf]
       | false =>
        have HV := Lib.hid (show rflkK E T p (2 + 1) = false by rw [HS.out, fa, fb]; rfl);clear HS;obtain ⟨xp, yp, zp, vp⟩ := Bp.f;obtain ⟨xe, ye, ze, ve⟩ := Be.f;obtain ⟨xs, ys, zs, vs⟩ := Bs.f;have gp := Bp.cells;have ge := Be.cells;have gs := Bs.cells;refine wrt 17 (by kernel_rfl) (by kernel_rfl) ?_;simp only [tK1, tK0, dP1, dP0];repeat (first | (refine zA0 (Eq.refl false) ?_; simp only [Act.put, sT2, sT1, sT0]) | (refine rWalk_step (fun K hK => ?_); go_simp; refine hK _ ?_; clear hK K))
        refine rWalk_nil ?_;intro w62 hb;clear gp ge gs;clear xp yp zp vp xe ye ze ve xs ys zs vs;obtain ⟨Bp, Be, Bs, hw, -⟩ := X3 Bp Be Bs hw hb;obtain ⟨xp, yp, zp, vp⟩ := Bp.f;obtain ⟨xe, ye, ze, ve⟩ := Be.f;obtain ⟨xs, ys, zs, vs⟩ := Bs.f;go_wp2_with fail
        go_ret
        refine ⟨?_, (upB hwA hw)⟩;rw [hc.out, show L.all (fun T => rflkK E T p 3) = false from by rw [List.all_eq_false]; exact ⟨T, hM, by rw [zCj (by omega) HV.out]; decide⟩];rfl
      | false =>
       have HV := Lib.hid (show rflkK E T p (2 + 1) = true by rw [HS.out, fa, fb]; rfl);clear HS;obtain ⟨xp, yp, zp, vp⟩ := Bp.f;obtain ⟨xe, ye, ze, ve⟩ := Be.f;obtain ⟨xs, ys, zs, vs⟩ := Bs.f;have gp := Bp.cells;have ge := Be.cells;have gs := Bs.cells;refine wrt 17 (by kernel_rfl) (by kernel_rfl) ?_;simp only [tK1, tK0, dP1, dP0];repeat (first | (refine zA0 (Eq.refl false) ?_; simp only [Act.put, sT2, sT1, sT0]) | (refine rWalk_step (fun K hK => ?_); go_simp; refine hK _ ?_; clear hK K))
       refine rWalk_nil ?_;intro w62 hb;clear gp ge gs;clear xp yp zp vp xe ye ze ve xs ys zs vs;obtain ⟨Bp, Be, Bs, hw, -⟩ := X3 Bp Be Bs hw hb;obtain ⟨xp, yp, zp, vp⟩ := Bp.f;obtain ⟨xe, ye, ze, ve⟩ := Be.f;obtain ⟨xs, ys, zs, vs⟩ := Bs.f;go_wp2_with fail
       go_roundw
       case rel => exact ⟨3, 3, by omega, by first | rfl | go_num, Lib.hid rfl, HV, Bp, Be, hw⟩
       case measure => simp [intOf]
    ·have hj : j = 3 := by simpa using hj.out
     subst hj;obtain ⟨xp, yp, zp, vp⟩ := Bp.f;obtain ⟨xe, ye, ze, ve⟩ := Be.f;go_wp2_with fail;rw [← ea]
     go_roundw
     case rel =>
      refine ⟨i + 1, by go_num, by omega, Lib.hid ?_, Bp, hw⟩;intro T2 h2;rw [HN.out, List.mem_append] at h2;rcases h2 with h2 | h2
      ·exact HF.out T2 h2
      ·rw [List.mem_singleton] at h2;rw [h2]; exact HK.out
     case measure => simp [intOf]; omega
end Go.Proofs.YtmobnmjjmafibaaGreat
namespace Go.Proofs.YtmobnmjjmafibaaGreat
open Go.RowKit Go.Sort
attribute [local go_sem] rOper rAt rUpon cell_set sg_i64 sg_u64 alloc_cell alloc_frozen
attribute [local go_sem 10000] pt_eql pt_neq tri_eql
attribute [local irreducible] rWalk
theorem lft_same {E F : Es} {L : List Tri3} (h : Good E L) (g : Good F L) (a b : Pt) : lftE E a b = lftE F a b := by
 cases e : getE E (a, b) with
 | none => rw [zB3 e, zB3 (g.get_none.2 (h.get_none.1 e))]
 | some T => rw [zAi e, zAi (g.get.2 (h.get.1 e))]
theorem acr_same {E F : Es} {L : List Tri3} (h : Good E L) (g : Good F L) {T : Tri3} (hT : T ∈ L) (i : Int) : acrE E T i = lftE F (crn T (i + 1)) (crn T i) := by
 unfold acrE;rw [if_pos (h.has.2 hT), lft_same h g]
theorem zGj {E F : Es} {L : List Tri3} (h : Good E L) (g : Good F L) {T : Tri3} (hT : T ∈ L) (p : Pt) : flkK E T p 3 = rflkK F T p 3 := by
 have e : ∀ (i : Int) (x y : Pt), crn T i = x → crn T (i + 1) = y → flk1 E T p i = rflk1 F p x y := fun i x y hx hy => by
  unfold flk1 rflk1;rw [acr_same h g hT, hx, hy];cases peqI x.x x.y p.x p.y <;> cases peqI y.x y.y p.x p.y <;> simp
 unfold flkK flkK flkK flkK rflkK rflkK rflkK rflkK;rw [e (0 : Nat) (crN T 0) (crN T (0 + 1)) rfl rfl, e ((0 + 1 : Nat) : Int) (crN T (0 + 1)) (crN T (0 + 1 + 1)) rfl rfl, e ((0 + 1 + 1 : Nat) : Int) (crN T (0 + 1 + 1)) (crN T (0 + 1 + 1 + 1)) rfl rfl]
theorem zG0 {E F : Es} {L : List Tri3} (h : Good E L) (g : Good F L) (p : Pt) : starW E p = srt cmpT (starE p F) :=
 wholeT.srt_of_perm ((zBj h (isCb p)).trans (g.star_f p).symm)
theorem zC6 {E : Es} {L : List Tri3} (h : Good E L) {p : Pt} {T : Tri3} : T ∈ starW E p ↔ T ∈ L ∧ isCb p T = true := by
 unfold starW;rw [(zAg _).mem_iff, (zBj h (isCb p)).mem_iff, List.mem_filter]
theorem closed_same {E F : Es} {L : List Tri3} (h : Good E L) (g : Good F L) (p : Pt) : closedW E p = ((srt cmpT (starE p F)).all (fun T => rflkK F T p 3) && decide (0 < (srt cmpT (starE p F)).length)) := by
 unfold closedW;rw [← zG0 h g p];congr 1
 rw [Bool.eq_iff_iff, List.all_eq_true, List.all_eq_true];constructor <;> intro k T hT <;> have hL := ((zC6 h).1 hT).1
 ·rw [← zGj h g hL]; exact k T hT
 ·rw [zGj h g hL]; exact k T hT
theorem lft_there {F : Es} {L : List Tri3} (g : Good F L) (a b : Pt) : (lftE F a b).2 = true ↔ (a, b) ∈ L.flatMap ways := by
 cases e : getE F (a, b) with
 | none => rw [zB3 e]; have := g.get_none.1 e; simp only [Bool.false_eq_true, false_iff]; exact this
 | some T => rw [zAi e]; have := g.get.1 e; simp only [true_iff]; exact List.mem_flatMap.2 ⟨T, this.1, this.2⟩
theorem zHn {F : Es} {L : List Tri3} (g : Good F L) (p x y : Pt) : rflk1 F p x y = true ↔ (x = p ∨ y = p → (y, x) ∈ L.flatMap ways) := by
 unfold rflk1;rw [← lft_there g, ← zBi (p := x) (q := p), ← zBi (p := y) (q := p)];cases peqI x.x x.y p.x p.y <;> cases peqI y.x y.y p.x p.y <;> cases (lftE F y x).2 <;> simp
theorem zHz {F : Es} {L : List Tri3} (g : Good F L) (p : Pt) (T : Tri3) : rflkK F T p 3 = true ↔ ∀ w ∈ ways T, w.1 = p ∨ w.2 = p → (w.2, w.1) ∈ L.flatMap ways := by
 unfold rflkK rflkK rflkK rflkK;rw [Bool.and_eq_true, Bool.and_eq_true, Bool.and_eq_true, zHn g, zHn g, zHn g];unfold ways;simp only [List.forall_mem_cons, crN];constructor
 ·rintro ⟨⟨⟨_, h0⟩, h1⟩, h2⟩;exact ⟨h0, h1, h2, by simp⟩
 ·rintro ⟨h0, h1, h2, _⟩;exact ⟨⟨⟨trivial, h0⟩, h1⟩, h2⟩
theorem closed_iff {E : Es} {L : List Tri3} (h : Good E L) (p : Pt) : closedW E p = true ↔ allBack L p ∧ someC L p := by
 unfold closedW;rw [Bool.and_eq_true, List.all_eq_true, decide_eq_true_iff];constructor
 ·rintro ⟨h1, h2⟩;refine ⟨fun w hw hp => ?_, ?_⟩
  ·obtain ⟨T, hT, hwT⟩ := List.mem_flatMap.1 hw;have hc : isCb p T = true := by
    rw [zE2];unfold ways at hwT;simp only [List.mem_cons, List.not_mem_nil, or_false] at hwT;rcases hwT with rfl | rfl | rfl <;> rcases hp with hp | hp <;> (have hp2 := hp.symm; simp [hp2, isCnr])
   have k := h1 T ((zC6 h).2 ⟨hT, hc⟩);rw [zGj h h hT, zHz h] at k;exact k w hwT hp
  ·obtain ⟨T, hT⟩ := List.exists_mem_of_length_pos h2;have k := (zC6 h).1 hT;exact ⟨T, k.1, zE2.1 k.2⟩
 ·rintro ⟨h1, T, hT, hc⟩;refine ⟨fun S hS => ?_, List.length_pos_of_mem ((zC6 h).2 ⟨hT, zE2.2 hc⟩)⟩;have hSL := ((zC6 h).1 hS).1;rw [zGj h h hSL, zHz h];exact fun w hw hp => h1 w (List.mem_flatMap.2 ⟨S, hSL, hw⟩) hp
theorem zHh {W H : Int} {E : Es} {L : List Tri3} (h : Good E L) (t : Tiles W H L) {p : Pt} (hc : someC L p) : closedW E p = true ↔ ¬ atRim W H p := by
 rw [closed_iff h];exact ⟨fun k hr => t.open hr hc k.1, fun k => ⟨t.back k, hc⟩⟩
section
variable {W H : Int} {E : Es} {L : List Tri3} {p : Pt} (h : Good E L) (t : Tiles W H L) (hW' : W < 16777216) (hH' : H < 16777216)
include h t hW' hH'
theorem at_star (hp : inBox W H p) (hc : someC L p) : atE E p = starW E p := by
 have k := zK9 hW' hH' h hp;refine wholeT.srt_of_perm ((zBj h _).trans (List.Perm.trans ?_ (zBj h (isCb p)).symm));refine List.Perm.of_eq (List.filter_congr fun T hT => ?_);rw [Bool.eq_iff_iff, k.2 T hT, zE2];obtain ⟨S, hS, hcS⟩ := hc;exact ⟨fun hh => t.cnr_all hS hT hcS hh, fun hh => (zK5 (t.pos T hT) hh).1⟩
end
end Go.Proofs.YtmobnmjjmafibaaGreat
