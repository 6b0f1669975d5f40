/- Put together: CdtM, CdtN, CdtO, MesV, MesW, CdtP, CdtQ. -/
import Derived.Test.YtjkfakaehjmnbaaGreatRows
import Derived.Test.YtjkfakaehjmnbaaGreatPmf6
import Derived.Test.YtjkfakaehjmnbaaGreatPmf15
import Derived.Test.YtjkfakaehjmnbaaGreatPmf1
import Derived.WalkKit
import Derived.WalkSpells
import Derived.WalkLawsBesides
import Derived.Laws.Externs
import Derived.Deep.QuietTactic
import Derived.BigQuiet
import Derived.Lib.Hide
import Derived.Handy
import Derived.OwnWalk
import Derived.LoopN
import Derived.RegionTactic
import Derived.Test.YtjkfakaehjmnbaaGreatPmf7
import Derived.Test.YtjkfakaehjmnbaaGreatPmf3
import Derived.Test.YtjkfakaehjmnbaaGreatPmf9
import Derived.Test.YtjkfakaehjmnbaaGreatPmf10
import Derived.Test.YtjkfakaehjmnbaaGreatPmf11
import Derived.Test.YtjkfakaehjmnbaaGreatPmf5
set_option maxRecDepth 100000
set_option maxHeartbeats 8000000
namespace Go.Proofs.YtjkfakaehjmnbaaGreat
open Go.RowKit Go.Sort
attribute [local go_sem] rOper rAt rUpon cell_set sg_i64 sg_u64 alloc_cell alloc_frozen
attribute [local go_sem 10000] pt_eql pt_neq tri_eql
attribute [local irreducible] rWalk
theorem DocAt.turn {w w' : World} {db b : Nat} {v : Value} {L : List Wl} {E : Es} (S : DocAt w db v L) (H : HoldsMap eW eT okW w b E) (hg : w.grownBy w' (some b)) : DocAt w' db v L :=
 ⟨S.box.turn H hg, S.row.kept hg (.inr (fun e => zC7 S.row H e.symm)), S.ne, S.le⟩
theorem zGh {α β : Type} (f : β → α → β) (L : List α) (e : β) {i : Nat} (hi : i < L.length) : (L.take (i + 1)).foldl f e = f ((L.take i).foldl f e) L[i] := by
 rw [List.take_succ_eq_append_getElem hi, List.foldl_append]; rfl
def insW (L : List Wl) (X : Wl) (k : Nat) : List Wl := L.take k ++ X :: L.drop k
def AddD (D : List Wl) (p : Pt) (D' : List Wl) : Prop :=
 (D.find? (onD p) = none ∧ D' = D) ∨ ∃ X r D1 k1 k2, D.find? (onD p) = some X ∧ RemAt D (rl X.A X.B) (rg X.A X.B) r D1 ∧ PutAt D1 ⟨X.A, p, X.K⟩ k1 ∧ PutAt (insW D1 ⟨X.A, p, X.K⟩ k1) ⟨p, X.B, X.K⟩ k2 ∧ D' = insW (insW D1 ⟨X.A, p, X.K⟩ k1) ⟨p, X.B, X.K⟩ k2
def AddPost (b db : Nat) (E : Es) (p : Pt) (v : Value) (D : List Wl) (w : World) (e : Ending) (w' : World) : Prop :=
 ∃ v' D', e = .returned (.int .i64 0) ∧ HoldsMap eW eT okW w' b (addPE E p) ∧ DocAt w' db v' D' ∧ AddD D p D' ∧ Frm w w' (fun k => k = b ∨ k = db) ∧ (∀ g, v'.ownBlock = some g → v.ownBlock = some g ∨ w.heap.size ≤ g)
theorem raddP_ok (mb b db : Nat) (E : Es) (p : Pt) (v : Value) (D : List Wl) (hE : E.length ≤ 1000000) (hn1 : (atE E p).length ≤ 1000) (hok : ∀ T ∈ atE E p, okT T) (hok2 : ∀ T ∈ atE E p, ∀ U ∈ cutS p T, okT U) (hat : atE E p ≠ []) (hst : starE p E = []) (w : World) (Bm : Box w mb [.map (some b)] 54) (Hm : HoldsMap eW eT okW w b E) (Dw : DocAt w db v D) (hD : D.length + 2 < 1000000) (hgk : ∀ x ∈ D, 0 ≤ x.K ∧ x.K ≤ 2) :
    Calls Tryz.prog 51 #[.pointer (some ⟨mb, 0, none⟩), .pointer (some ⟨db, 0, none⟩), .agg #[.int .i64 p.x, .int .i64 p.y]] w (AddPost b db E p v D w) := by
 have cA := fun w0 B1 H1 => zJi mb b E p hE w0 B1 H1
 change ∀ (w0 : World) B1 H1, Calls _ _ _ _ fun e w' => ∃ a cap, e = .returned (.slice a (atE E p).length cap) ∧ RowAt cT 6 w' a (atE E p) ∧ Below w0.heap.size w0 w' at cA
 have cS := fun w0 B1 H1 => zI4 mb b E p hE w0 B1 H1;have z : srt cmpT ([] : List Tri3) = [] := List.length_eq_zero_iff.1 (by rw [(zAo _).length_eq]; rfl);rw [hst, z] at cS;have HA := Lib.hid (show addPE E p = (atE E p).foldl (fun E T => (cutS p T).foldl putF E) ((atE E p).foldl takeT E) from rfl);obtain ⟨EE, hEE⟩ : ∃ EE, addPE E p = EE := ⟨_, rfl⟩;rw [hEE] at HA;have HEE := Lib.hid hEE;clear hEE;generalize atE E p = F at *
 obtain ⟨n, hn⟩ : ∃ n, F.length = n := ⟨_, rfl⟩;have hn0 : ((n : Int) == 0) = false := by
  have : n ≠ 0 := fun e => hat (List.length_eq_zero_iff.1 (hn.trans e));simp; omega
 rw [hn] at cA hn1;have HN := Lib.hid hn;have HG := Lib.hid hgk;clear hat hst hn z hgk
 go_enter Tryz.func51, Tryz.ntmps51
 go_wp2_with fail;refine zA1 fun W1 hW => ?_;have hw : Below w.heap.size w W1 := by rw [hW]; go_grown
 have Bp : Box W1 w.heap.size [.int .i64 p.x, .int .i64 p.y] 30 := by rw [hW]; exact Box.new rfl
 clear hW;refine (cA _ (Bm.ee hw) (Hm.ee hw)).mono ?_;rintro e w2 ⟨a, cap, rfl, hr, hb⟩;have hw2 := (upB hw hb);have Bp2 := Bp.ee hb;clear hb cA Bp hw;have Fp := Bp2.f;go_wp2_with fail;refine (cS _ (Bm.ee hw2) (Hm.ee hw2)).mono ?_;rintro e w3 ⟨a3, cap3, rfl, hr3, hb3⟩;have hw3 := (upB hw2 hb3);have Bp3 := Bp2.ee hb3;have r3 := hr.ee hb3;have H3 := Hm.ee hw3;have g3 : w.grownBy w3 (some b) := zA7 hw3 _;clear hb3 cS hr3 Fp hr Bp2 hw2 hw3;go_wp2
 go_loopw [8] (fun v8 wr => ∃ i : Nat, v8 = .int .i64 i ∧ i ≤ n ∧ HoldsMap eW eT okW wr b ((F.take i).foldl takeT E) ∧ w.grownBy wr (some b) ∧ Box wr w.heap.size [.int .i64 p.x, .int .i64 p.y] 30 ∧ RowAt cT 6 wr a F) (fun v8 _ => n - (intOf v8).toNat)
 case atStart => exact ⟨0, rfl, Nat.zero_le _, H3, g3, Bp3, r3⟩
 case round =>
  clear H3 g3 Bp3 r3;obtain ⟨i, rfl, hi, H3, g3, Bp3, r3⟩ := hrel;by_cases hlt : i < n
  ·have hil : i < F.length := by rw [HN.out]; exact hlt
   have q0 : (i : Int) < (n : Int) := by omega
   obtain ⟨ad, A, ea, eA, hA⟩ := r3.six (j := i) hil;have hkT := hok F[i] (List.getElem_mem hil);have HT := Lib.hid (zGh takeT F E hil);generalize F[i] = T at *
   generalize hE1 : (F.take i).foldl takeT E = E1 at *
   have ct := zEu mb b E1 T hkT wr (Bm.turn Hm g3) H3;obtain ⟨zA, q1, q2, q3, q4, q5, q6⟩ := hA.f;have hlA := hA.1;subst ea;clear hE1 hkT;go_wp2_with fail;refine ct.mono ?_;rintro e w5 ⟨rfl, h5, H5⟩;have Bp5 := Bp3.turn H3 h5;have r5 := r3.turn cT_ne H3 h5;have g5 := zA9 g3 h5;clear ct zA q1 q2 q3 q4 q5 q6 hA H3 Bp3 r3 g3 h5;go_wp2
   go_roundw
   case rel => exact ⟨i + 1, by go_num, by omega, by rw [HT.out]; exact H5, g5, Bp5, r5⟩
   case measure => simp [intOf]; omega
  ·have q0 : decide ((i : Int) < (n : Int)) = false := by simpa using hlt
   have hin : i = n := by omega
   have e1 : F.take i = F := List.take_of_length_le (by rw [HN.out]; omega);rw [e1] at H3;clear hin e1;go_wp2;generalize hEb : F.foldl takeT E = Eb at *
   clear hEb;obtain ⟨stp, hstp⟩ : ∃ stp : Es → Tri3 → Es, stp = fun E T => (cutS p T).foldl putF E := ⟨_, rfl⟩;rw [← hstp] at HA;have HSTP := Lib.hid hstp;clear hstp
   go_loopw [9] (fun v9 wr => ∃ i : Nat, v9 = .int .i64 i ∧ i ≤ n ∧ HoldsMap eW eT okW wr b ((F.take i).foldl stp Eb) ∧ w.grownBy wr (some b) ∧ Box wr w.heap.size [.int .i64 p.x, .int .i64 p.y] 30 ∧ RowAt cT 6 wr a F) (fun v9 _ => n - (intOf v9).toNat)
   case atStart => exact ⟨0, rfl, Nat.zero_le _, H3, g3, Bp3, r3⟩
   case round =>
    clear H3 g3 Bp3 r3 q0 hlt hi;obtain ⟨i, rfl, hi, H3, g3, Bp3, r3⟩ := hrel;by_cases hlt : i < n
    ·have hil : i < F.length := by rw [HN.out]; exact hlt
     have q0 : (i : Int) < (n : Int) := by omega
     obtain ⟨ad, A, ea, eA, hA⟩ := r3.six (j := i) hil;have hk2 := hok2 F[i] (List.getElem_mem hil);have HT := Lib.hid (show (F.take (i + 1)).foldl stp Eb = (cutS p F[i]).foldl putF ((F.take i).foldl stp Eb) by rw [zGh stp F Eb hil, HSTP.out]);generalize F[i] = T at *
     generalize (F.take i).foldl stp Eb = E1 at *
     have cc := fun w0 => rcut_any T p w0
     change ∀ (w0 : World), Calls _ _ _ _ fun e w' => ∃ a cap, e = .returned (.slice a (cutS p T).length cap) ∧ RowAt cT 6 w' a (cutS p T) ∧ Below w0.heap.size w0 w' at cc
     have hcl : (cutS p T).length ≤ 3 := by
      unfold cutS;rw [(zAo _).length_eq];unfold cutR;split
      ·exact zK1 p T
      ·simp
     generalize cutS p T = C at *
     obtain ⟨m, hm⟩ : ∃ m, C.length = m := ⟨_, rfl⟩;have HM := Lib.hid hm;rw [hm] at cc hcl;clear hm;obtain ⟨s0, s1, s2, s3, s4, s5⟩ := hA.cells;have gP := Bp3.cells;have ea2 := ea;subst ea;go_wp2_with fail;refine wrt 5 (by kernel_rfl) (by kernel_rfl) ?_;simp only [tK1, tK0, dP1, dP0];repeat (first | (refine zA0 (Eq.refl false) ?_; simp only [Act.put, sT2, sT1, sT0]) | (refine rWalk_step (fun K hK => ?_); go_simp; refine hK _ ?_; clear hK K))
     refine rWalk_nil ?_;intro w4 hb;clear s0 s1 s2 s3 s4 s5 gP;have Bp4 := Bp3.ee hb;have r4 := r3.ee hb;have H4 := H3.ee hb;have g4 := zAb g3 hb;clear hb hA Bp3 r3 H3 g3;go_wp2_with fail;refine (cc _).mono ?_;rintro e w5 ⟨a5, cap5, rfl, r5c, hb⟩;have Bp5 := Bp4.ee hb;have r5 := r4.ee hb;have H5 := H4.ee hb;have g5 := zAb g4 hb;clear hb Bp4 r4 H4 g4 cc;go_wp2
     go_loopw [11] (fun v11 wr => ∃ k : Nat, v11 = .int .i64 k ∧ k ≤ m ∧ HoldsMap eW eT okW wr b ((C.take k).foldl putF E1) ∧ w.grownBy wr (some b) ∧ Box wr w.heap.size [.int .i64 p.x, .int .i64 p.y] 30 ∧ RowAt cT 6 wr (some ad) F ∧ RowAt cT 6 wr a5 C) (fun v11 _ => m - (intOf v11).toNat)
     case atStart => exact ⟨0, rfl, Nat.zero_le _, H5, g5, Bp5, r5, r5c⟩
     case round =>
      clear H5 g5 Bp5 r5 r5c;obtain ⟨k, rfl, hkm, H5, g5, Bp5, r5, r5c⟩ := hrel;by_cases hlk : k < m
      ·have hkl : k < C.length := by rw [HM.out]; exact hlk
       have q1 : (k : Int) < (m : Int) := by omega
       obtain ⟨ad2, A2, ea2', eA2, hA2⟩ := r5c.six (j := k) hkl;have hkU := hk2 C[k] (List.getElem_mem hkl);have HU := Lib.hid (zGh putF C E1 hkl);generalize C[k] = U at *
       generalize (C.take k).foldl putF E1 = E2 at *
       have cp := rputF_any mb b E2 U hkU wr (Bm.turn Hm g5) H5;obtain ⟨zA, t1, t2, t3, t4, t5, t6⟩ := hA2.f;subst ea2';clear hkU;go_wp2_with fail;refine cp.mono ?_;rintro e w6 ⟨rr, rfl, h6, H6⟩;have Bp6 := Bp5.turn H5 h6;have r6 := r5.turn cT_ne H5 h6;have r6c := r5c.turn cT_ne H5 h6;have g6 := zA9 g5 h6;clear cp zA t1 t2 t3 t4 t5 t6 hA2 H5 Bp5 r5 r5c g5 h6;go_wp2
       go_roundw
       case rel => exact ⟨k + 1, by go_num, by omega, by rw [HU.out]; exact H6, g6, Bp6, r6, r6c⟩
       case measure => simp [intOf]; omega
      ·have q1 : decide ((k : Int) < (m : Int)) = false := by simpa using hlk
       have hkm2 : k = m := by omega
       have e1 : C.take k = C := List.take_of_length_le (by rw [HM.out]; omega);rw [e1] at H5;clear hkm2 e1 r5c;go_wp2
       go_roundw
       case rel => exact ⟨i + 1, by go_num, by omega, by rw [HT.out]; exact H5, g5, Bp5, r5⟩
       case measure => simp [intOf]; omega
    ·have q0 : decide ((i : Int) < (n : Int)) = false := by simpa using hlt
     have hin : i = n := by omega
     have e1 : F.take i = F := List.take_of_length_le (by rw [HN.out]; omega);rw [e1, ← HA.out] at H3;clear hin e1 r3;clear hok2 hok HN HA HSTP hE hn1 hn0;have Dw3 := Dw.turn Hm g3;have hgo := fun (p : Nat → Prop) (hp : p b) => Frm.of_grown g3 (p := p) (fun g e => by cases e; exact hp);have F3 : Frm w wr (fun k => k = b ∨ k = db) := hgo _ (.inl rfl);have hwp : w.heap.size < wr.heap.size := Bp3.lt;have hdb : db < w.heap.size := Dw.box.lt;have hbd : (some b) ≠ (some db) := fun e => (Dw3.box.ne_map H3) (Option.some.inj e).symm;obtain ⟨a9, c9, hv9, Dr, _⟩ := Dw3.rd;have cO := ron_set_any db a9 c9 D.length D p wr Dr;clear hgo g3 Dr hv9;have Fp := Bp3.f;cases hO : D.find? (onD p) with
     | none =>
      rw [hO] at cO
      change Calls _ _ _ _ fun e w' => e = .returned (.tuple #[.agg #[.int .i64 0, .int .i64 0, .int .i64 0, .int .i64 0, .int .i64 0], .bool false]) ∧ _ at cO
      have HO := Lib.hid hO;clear hO;go_wp2_with fail;refine cO.mono ?_;rintro e w6 ⟨rfl, hb⟩;have H6 := H3.ee hb;have D6 := Dw3.ee hb;have F6 := F3.trans (Frm.of_below hb);clear cO hb Fp Bp3 H3 Dw3 F3 hwp;go_wp2
      go_ret
      exact ⟨v, D, rfl, by rw [HEE.out]; exact H6.alloc _, D6.ext (by go_grown) rfl, .inl ⟨HO.out, rfl⟩, F6.trans (Frm.of_below (by go_grown)), fun g e => .inl e⟩
     | some X =>
      rw [hO] at cO
      change Calls _ _ _ _ fun e w' => e = .returned (.tuple #[.agg #[.int .i64 X.A.x, .int .i64 X.A.y, .int .i64 X.B.x, .int .i64 X.B.y, .int .i64 X.K], .bool true]) ∧ _ at cO
      have hXm := List.mem_of_find?_eq_some hO;have hXk := HG.out X hXm;have HO := Lib.hid hO;clear hO hXm;go_wp2_with fail;refine cO.mono ?_;rintro e w6 ⟨rfl, hb⟩;have H6 := H3.ee hb;have D6 := Dw3.ee hb;have F6 := F3.trans (Frm.of_below hb);have Bp6 := Bp3.ee hb;have hs6 := hb.size;clear cO hb Fp Bp3 H3 Dw3 F3;have Fp := Bp6.f;go_wp2_with fail;refine zA1 fun w7 hW => ?_;have Bw : Box w7 w6.heap.size [.int .i64 X.A.x, .int .i64 X.A.y, .int .i64 X.B.x, .int .i64 X.B.y, .int .i64 X.K] 77 := by rw [hW]; exact Box.new rfl
      have Bp7 : Box w7 w.heap.size [.int .i64 p.x, .int .i64 p.y] 30 := by rw [hW]; exact Bp6.old _
      have H7 : HoldsMap eW eT okW w7 b EE := by rw [hW]; exact H6.alloc _
      have hb7 : Below w6.heap.size w6 w7 := by rw [hW]; go_grown
      have D7 := D6.ee hb7;have F7 := F6.trans (Frm.of_below hb7);clear hW hb7 Fp Bp6 H6 D6 F6;refine (rrem_any db v D X.A X.B w7 D7).mono ?_;rintro e w8 ⟨r, v1, D1, rfl, hR, D8, f8, fr8⟩;have Bw8 := f8.box Bw (by omega);have Bp8 := f8.box Bp7 (by omega);have H8 := H7.kept f8.grown hbd;have F8 := F7.trans2 f8 (fun k hk _ => .inr hk);have h1 : D1.length ≤ D.length ∧ ∀ x ∈ D1, x ∈ D := by
       rcases hR with ⟨_, e, _⟩ | ⟨_, k, hk, _, e⟩
       ·rw [e]; exact ⟨Nat.le_refl _, fun x hx => hx⟩
       ·rw [e];refine ⟨by simp; omega, fun x hx => ?_⟩;rcases List.mem_append.1 hx with hx | hx
        ·exact List.mem_of_mem_take hx
        ·exact List.mem_of_mem_drop hx
      have hs8 := f8.size;have cp1 := zDf db v1 D1 ⟨X.A, p, X.K⟩ (by omega) (fun x hx => HG.out x (h1.2 x hx)) hXk w8 D8;have HR8 := Lib.hid hR;have HL1 := Lib.hid h1;clear hR Bw Bp7 H7 D7 F7 f8 h1;have Fp := Bp8.f;have Fw := Bw8.f;go_wp2_with fail;refine cp1.mono ?_;rintro e w9 ⟨k1, v2, rfl, hk1, D9, f9, fr9⟩;have Bw9 := f9.box Bw8 (by omega);have Bp9 := f9.box Bp8 (by omega);have H9 := H8.kept f9.grown hbd;have F9 := F8.trans2 f9 (fun k hk _ => .inr hk);have hln : (D1.take k1 ++ (⟨X.A, p, X.K⟩ : Wl) :: D1.drop k1).length = D1.length + 1 := by
       rw [List.length_append, List.length_cons, List.length_take, List.length_drop]; have := hk1.1; omega
      have cp2 := zDf db v2 (D1.take k1 ++ (⟨X.A, p, X.K⟩ : Wl) :: D1.drop k1) ⟨p, X.B, X.K⟩ (by rw [hln]; have := HL1.out.1; omega) (fun x hx => by
       rcases List.mem_append.1 hx with hx | hx
       ·exact HG.out x (HL1.out.2 x (List.mem_of_mem_take hx))
       ·rcases List.mem_cons.1 hx with rfl | hx
        ·exact hXk
        ·exact HG.out x (HL1.out.2 x (List.mem_of_mem_drop hx))) hXk w9 D9
      have HK1 := Lib.hid hk1;clear Fp Fw Bp8 Bw8 H8 D8 F8 f9 cp1 hln hk1;have Fp := Bp9.f;have Fw := Bw9.f;go_wp2_with fail;refine cp2.mono ?_;rintro e w10 ⟨k2, v3, rfl, hk2', D10, f10, fr10⟩;have H10 := H9.kept f10.grown hbd;have F10 := F9.trans2 f10 (fun k hk _ => .inr hk);have HADD := Lib.hid (show AddD D p ((D1.take k1 ++ (⟨X.A, p, X.K⟩ : Wl) :: D1.drop k1).take k2 ++ (⟨p, X.B, X.K⟩ : Wl) :: (D1.take k1 ++ (⟨X.A, p, X.K⟩ : Wl) :: D1.drop k1).drop k2) from .inr ⟨X, r, D1, k1, k2, HO.out, HR8.out, HK1.out, hk2', rfl⟩);have HV := Lib.hid (show ∀ g, v3.ownBlock = some g → v.ownBlock = some g ∨ w.heap.size ≤ g from fun g e => .inr (by have := fr10 g e; have := F9.size; omega));clear Fp Fw Bp9 Bw9 H9 D9 F9 f10 cp2 hk2' fr10 fr9 fr8;generalize ((D1.take k1 ++ (⟨X.A, p, X.K⟩ : Wl) :: D1.drop k1).take k2 ++ (⟨p, X.B, X.K⟩ : Wl) :: (D1.take k1 ++ (⟨X.A, p, X.K⟩ : Wl) :: D1.drop k1).drop k2) = DD at *
      go_wp2
      go_ret
      exact ⟨v3, DD, rfl, by rw [HEE.out]; exact H10, D10, HADD.out, F10, HV.out⟩
end Go.Proofs.YtjkfakaehjmnbaaGreat
namespace Go.Proofs.YtjkfakaehjmnbaaGreat
open Go.RowKit Go.Sort
theorem zFj (f : Tri3 → Bool) : ∀ (L : List Tri3), (∀ T ∈ L, valT T = true) → heads f (L.flatMap wys) = L.filter f
 | [], _ => rfl
 | T :: L, h => by
  obtain ⟨a1, a2, a3⟩ := zEq (h T (by simp));rw [List.flatMap_cons, zAy, zFj f L (fun S hS => h S (by simp [hS]))];have : heads f (wys T) = if f T = true then [T] else [] := by
   unfold heads wys;cases hf : f T <;> simp [Ne.symm a1, a3, hf]
  rw [this];cases hf : f T <;> simp [hf]
theorem zHi {E : Es} {L : List Tri3} (h : Good E L) (f : Tri3 → Bool) : (heads f E).Perm (L.filter f) := by
 have := zCw (p := f) h.perm
 rwa [zFj f L h.val] at this
def isCb (p : Pt) (T : Tri3) : Bool := decide (p = T.A) || (decide (p = T.B) || decide (p = T.C))
theorem zJr {p : Pt} {T : Tri3} : isCb p T = true ↔ isCnr T p := by
 unfold isCb isCnr; simp
theorem zFy (p : Pt) : ∀ (L : List Tri3), (∀ T ∈ L, valT T = true) → starE p (L.flatMap wys) = L.filter (isCb p)
 | [], _ => rfl
 | T :: L, h => by
  obtain ⟨a1, a2, a3⟩ := zEq (h T (by simp));rw [List.flatMap_cons, zDe, zFy p L (fun S hS => h S (by simp [hS]))];have : starE p (wys T) = if isCb p T = true then [T] else [] := by
   unfold starE wys isCb;by_cases h1 : p = T.A
   ·subst h1; simp [Ne.symm a1, a3]
   ·by_cases h2 : p = T.B
    ·subst h2; simp [a1, Ne.symm a2]
    ·by_cases h3 : p = T.C
     ·subst h3; simp [Ne.symm a3, a2]
     ·simp [h1, h2, h3, Ne.symm h1, Ne.symm h2, Ne.symm h3]
  rw [this];cases hf : isCb p T <;> simp [hf]
theorem Good.star_f {E : Es} {L : List Tri3} (h : Good E L) (p : Pt) : (starE p E).Perm (L.filter (isCb p)) := by
 have := zH9 (p := p) h.perm
 rwa [zFy p L h.val] at this
theorem Good.star_nil {E : Es} {L : List Tri3} (h : Good E L) (p : Pt) : starE p E = [] ↔ ¬ someC L p := by
 constructor
 ·intro e ⟨T, hT, hc⟩;have := h.star_f p;rw [e] at this;have hm : T ∈ L.filter (isCb p) := List.mem_filter.2 ⟨hT, zJr.2 hc⟩;rw [← this.mem_iff] at hm;cases hm
 ·intro hn;have := h.star_f p;refine List.Perm.eq_nil (this.trans ?_);rw [List.filter_eq_nil_iff.2 (fun T hT hc => hn ⟨T, hT, zJr.1 hc⟩)]
theorem zIe {f g : Tri3 → List Tri3} : ∀ {L : List Tri3}, (∀ T ∈ L, (f T).Perm (g T)) → (L.flatMap f).Perm (L.flatMap g)
 | [], _ => .refl _
 | T :: L, h => by
  rw [List.flatMap_cons, List.flatMap_cons];exact (h T (by simp)).append (zIe fun S hS => h S (by simp [hS]))
theorem Good.putsF : ∀ {I : List Tri3} {E : Es} {M : List Tri3}, Good E M → (∀ T ∈ I, valT T = true) → ((I ++ M).flatMap ways).Nodup → Good (I.foldl putF E) (I ++ M)
 | [], _, _, h, _, _ => h
 | T :: I, E, M, h, hv, hn => by
  have hn' : (ways T ++ (I ++ M).flatMap ways).Nodup := by rw [← List.flatMap_cons]; exact hn
  rw [List.nodup_append] at hn';obtain ⟨h1, h2⟩ := Good.put (E := E) (T := T) (M := M) h (hv T (by simp)) (fun w hw k => hn'.2.2 w hw w (by rw [List.flatMap_append]; exact List.mem_append_right _ k) rfl);have := Good.putsF (I := I) h2 (fun S hS => hv S (by simp [hS])) ((zB6 (List.perm_middle (a := T) (l₁ := I) (l₂ := M))).nodup_iff.2 hn);have e : putF E T = putT E T := by unfold putF; rw [if_pos (zBz h1)]
  rw [List.foldl_cons, e];exact this.order List.perm_middle
theorem zIr (f : Es → Tri3 → Es) (g : Tri3 → List Tri3) : ∀ (L : List Tri3) (E : Es), L.foldl (fun E T => (g T).foldl f E) E = (L.flatMap g).foldl f E
 | [], _ => rfl
 | T :: L, E => by rw [List.foldl_cons, List.flatMap_cons, List.foldl_append, zIr f g L]
section
variable {W H : Int} {E : Es} {L : List Tri3} (hW : W < 16777216) (hH : H < 16777216) (g : Good E L) (t : Tiles W H L) {p : Pt}
include hW hH g t
omit t in
theorem zKu (hp : inBox W H p) : (atE E p).Perm (L.filter fun T => hasP T p) ∧ ∀ T ∈ L, hasP T p = true ↔ hasT T p := by
 have vp : vld p = true := by rw [zAx]; unfold inBox at hp; omega
 refine ⟨?_, fun T hT => ?_⟩
 ·unfold atE; exact (zAo _).trans (zHi g _)
 ·rw [zJu (g.val T hT) vp]; rfl
omit hW hH in
theorem at_none (hp : ¬ inBox W H p) : atE E p = [] := by
 have h1 : (atE E p).Perm (L.filter fun T => hasP T p) := by unfold atE; exact (zAo _).trans (zHi g _)
 refine List.Perm.eq_nil (h1.trans ?_);rw [List.filter_eq_nil_iff.2];intro T hT hh;have vp : vld p = true := by
  unfold hasP at hh;simp only [Bool.and_eq_true] at hh;exact hh.2.1
 exact hp (has_box (t.pos T hT) (t.box T hT) ((zJu (g.val T hT) vp).1 hh))
theorem zKt (hW0 : 0 < W) (hH0 : 0 < H) (hp : inBox W H p) : atE E p ≠ [] := by
 obtain ⟨h1, h2⟩ := zKu hW hH g hp;obtain ⟨T, hT, k⟩ := t.covers hW0 hH0 hp;intro e;rw [e] at h1;have : T ∈ L.filter fun T => hasP T p := List.mem_filter.2 ⟨hT, (h2 T hT).2 k⟩;rw [← h1.mem_iff] at this;cases this
theorem add_good (hW0 : 0 < W) (hH0 : 0 < H) (hp : inBox W H p) (hn : ¬ someC L p) :
    (∀ T ∈ atE E p, valT T = true) ∧ (∀ T ∈ atE E p, ∀ U ∈ cutS p T, valT U = true) ∧ (atE E p).length ≤ 2 ∧
    ∃ L', Good (addPE E p) L' ∧ Tiles W H L' ∧ (∀ q, someC L' q ↔ someC L q ∨ q = p) ∧ (L'.length = L.length + 2 ∧ ¬ atRim W H p ∨ L'.length = L.length + 1 ∧ atRim W H p) := by
 obtain ⟨h1, h2⟩ := zKu hW hH g hp;have hn' : ∀ T ∈ L, ¬ isCnr T p := fun T hT hc => hn ⟨T, hT, hc⟩;obtain ⟨F, hF, f1, f2⟩ := t.spots hW0 hH0 hp hn' h2;have fa := h1.trans f1;have hv : ∀ T ∈ atE E p, valT T = true := fun T hT => g.val T (List.mem_filter.1 (h1.mem_iff.1 hT)).1;have hcut : ∀ T ∈ atE E p, (cutS p T).Perm (cutP p T) := by
  intro T hT;have hm := List.mem_filter.1 (h1.mem_iff.1 hT);have hc := hn' T hm.1;have : cutOk T p = true := by
   unfold cutOk isCnr at *;simp only [not_or] at hc;rw [hm.2, zBw.2 hc.1, zBw.2 hc.2.1, zBw.2 hc.2.2]; rfl
  unfold cutS cutR;rw [if_pos this];exact zAo _
 obtain ⟨t', tv⟩ := tiles_cut t hW0 hH0 hW hH hp hn' hF f2;obtain ⟨c1, c2⟩ := cut_counts t hW hH hp hF;have pI : ((atE E p).flatMap (cutS p)).Perm (F.flatMap (cutP p)) := (zIe hcut).trans (fa.flatMap_right _);have lenF : F.length ≤ 2 := by cases hF <;> simp
 refine ⟨hv, fun T hT U hU => (tv U (pI.mem_iff.1 (List.mem_flatMap.2 ⟨T, hT, hU⟩))).1, by rw [fa.length_eq]; exact lenF, (atE E p).flatMap (cutS p) ++ L.filter (fun x => !hasP x p), ?_, ?_, ?_, ?_⟩
 ·unfold addPE;rw [zIr];have k := Good.takesF (F := atE E p) (E := E) (M := L.filter fun x => !hasP x p) (g.order (f2.trans (fa.symm.append_right _)));refine Good.putsF k (fun U hU => (tv U (pI.mem_iff.1 hU)).1) ?_;exact (zB6 (pI.append_right _)).nodup_iff.2 t'.once
 ·exact t'.perm (pI.symm.append_right _)
 ·intro q;rw [zF5, zDn pI, c1, zDn f2, zF5];constructor
  ·rintro ((k | k) | k)
   ·exact .inl (.inl k)
   ·exact .inr k
   ·exact .inl (.inr k)
  ·rintro ((k | k) | k)
   ·exact .inl (.inl k)
   ·exact .inr k
   ·exact .inl (.inr k)
 ·have e1 : L.length = F.length + (L.filter fun x => !hasP x p).length := by rw [f2.length_eq, List.length_append]
  rw [List.length_append, pI.length_eq];rcases c2 with ⟨k1, k2⟩ | ⟨k1, k2⟩
  ·exact .inl ⟨by omega, k2⟩
  ·exact .inr ⟨by omega, k2⟩
end
attribute [local go_sem] rOper rAt rUpon cell_set sg_i64 sg_u64 alloc_cell alloc_frozen
attribute [local go_sem 10000] pt_eql pt_neq tri_eql
attribute [local irreducible] rWalk
structure CdtAt (w : World) (cb mb b db : Nat) (v : Value) (W H : Int) (E : Es) (D : List Wl) : Prop where
 box : Box w cb [.int .i64 W, .int .i64 H, .pointer (some ⟨mb, 0, none⟩), .pointer (some ⟨db, 0, none⟩)] 39
 mesh : Box w mb [.map (some b)] 54
 map : HoldsMap eW eT okW w b E
 doc : DocAt w db v D
 cdb : cb ≠ db
 mdb : mb ≠ db
theorem CdtAt.ext {w w' : World} {cb mb b db n : Nat} {v : Value} {W H : Int} {E : Es} {D : List Wl} (S : CdtAt w cb mb b db v W H E D) (hb : Below n w w') (hn : n = w.heap.size) : CdtAt w' cb mb b db v W H E D :=
 ⟨S.box.ext hb hn, S.mesh.ext hb hn, S.map.ext hb hn, S.doc.ext hb hn, S.cdb, S.mdb⟩
theorem CdtAt.ee {w w' : World} {cb mb b db : Nat} {v : Value} {W H : Int} {E : Es} {D : List Wl} (S : CdtAt w cb mb b db v W H E D) (hb : Below w.heap.size w w') : CdtAt w' cb mb b db v W H E D := S.ext hb rfl
structure CInv (W H : Int) (E : Es) (L : List Tri3) (D : List Wl) : Prop where
 good : Good E L
 fix : Fixed W H (wll D) L
 kinds : ∀ x ∈ D, 0 ≤ x.K ∧ x.K ≤ 2
theorem add_kinds {D D' : List Wl} {p : Pt} (h : AddD D p D') (hk : ∀ x ∈ D, 0 ≤ x.K ∧ x.K ≤ 2) : (∀ x ∈ D', 0 ≤ x.K ∧ x.K ≤ 2) ∧ D'.length ≤ D.length + 2 := by
 rcases h with ⟨_, e⟩ | ⟨X, r, D1, k1, k2, hX, hR, h1, h2, e⟩
 ·rw [e]; exact ⟨hk, by omega⟩
 ·have hXk := hk X (List.mem_of_find?_eq_some hX);have hD1 : D1.length ≤ D.length ∧ ∀ x ∈ D1, x ∈ D := by
   rcases hR with ⟨_, e, _⟩ | ⟨_, k, hk, _, e⟩
   ·rw [e]; exact ⟨Nat.le_refl _, fun x hx => hx⟩
   ·rw [e];refine ⟨by simp; omega, fun x hx => ?_⟩;rcases List.mem_append.1 hx with hx | hx
    ·exact List.mem_of_mem_take hx
    ·exact List.mem_of_mem_drop hx
  have ins : ∀ (L : List Wl) (Y : Wl) (k : Nat), (∀ x ∈ L, 0 ≤ x.K ∧ x.K ≤ 2) → (0 ≤ Y.K ∧ Y.K ≤ 2) → ∀ x ∈ insW L Y k, 0 ≤ x.K ∧ x.K ≤ 2 := by
   intro L Y k hL hY x hx;unfold insW at hx;rcases List.mem_append.1 hx with hx | hx
   ·exact hL x (List.mem_of_mem_take hx)
   ·rcases List.mem_cons.1 hx with rfl | hx
    ·exact hY
    ·exact hL x (List.mem_of_mem_drop hx)
  have len : ∀ (L : List Wl) (Y : Wl) (k : Nat), (insW L Y k).length = L.length + 1 := by
   intro L Y k;unfold insW;have := (zE6 (L := L) (X := Y) k).length_eq
   simpa using this
  rw [e];exact ⟨ins _ _ _ (ins _ _ _ (fun x hx => hk x (hD1.2 x hx)) hXk) hXk, by rw [len, len]; omega⟩
def AddRes (W H : Int) (L : List Tri3) (p : Pt) (r : Int) : Prop := (r = 1 ∧ ¬ inBox W H p) ∨ (r = 5 ∧ inBox W H p ∧ someC L p) ∨ (r = 0 ∧ inBox W H p ∧ ¬ someC L p)
def CAddPost (cb mb b db : Nat) (W H : Int) (L : List Tri3) (D : List Wl) (p : Pt) (w : World) (e : Ending) (w' : World) : Prop :=
 ∃ r v' E' L' D', e = .returned (.int .i64 r) ∧ CdtAt w' cb mb b db v' W H E' D' ∧ CInv W H E' L' D' ∧ AddRes W H L p r ∧ (∀ q, someC L' q ↔ someC L q ∨ (q = p ∧ inBox W H p)) ∧ L'.length ≤ L.length + 2 ∧ D'.length ≤ D.length + 2 ∧ Frm w w' (fun k => k = b ∨ k = db)
theorem rcadd_any (cb mb b db : Nat) (v : Value) (W H : Int) (hW0 : 0 < W) (hH0 : 0 < H) (hW : W < 16777216) (hH : H < 16777216) (E : Es) (L : List Tri3) (D : List Wl) (hI : CInv W H E L D) (hL : L.length ≤ 20000) (hD : D.length ≤ 20000) (p : Pt) (w : World) (S : CdtAt w cb mb b db v W H E D) :
    Calls Tryz.prog 10 #[.pointer (some ⟨cb, 0, none⟩), .agg #[.int .i64 p.x, .int .i64 p.y]] w (CAddPost cb mb b db W H L D p w) := by
 have hE : E.length ≤ 1000000 := by rw [hI.good.len]; omega
 by_cases hb0 : inBox W H p
 ·by_cases hc0 : someC L p
  ·have ca := fun w0 B1 H1 => raddP_have mb b db E p hE w0 B1 H1 (zKt hW hH hI.good hI.fix.tiles hW0 hH0 hb0) (fun e => (hI.good.star_nil p).1 e hc0);have HR := Lib.hid (show AddRes W H L p 5 from .inr (.inl ⟨rfl, hb0, hc0⟩));have HS := Lib.hid (show ∀ q, someC L q ↔ someC L q ∨ (q = p ∧ inBox W H p) from fun q => ⟨.inl, fun k => by rcases k with k | ⟨rfl, _⟩; exact k; exact hc0⟩);clear hb0 hc0 hE
   go_enter Tryz.func10, Tryz.ntmps10
   go_wp2_with fail;refine zA2 fun w1 hW => ?_;have Bp : Box w1 w.heap.size [.int .i64 p.x, .int .i64 p.y] 30 := by rw [hW]; exact Box.new rfl
   have hw : Below w.heap.size w w1 := by rw [hW]; go_grown
   clear hW;have S1 := S.ee hw;have g1 := Bp.cells;have g2 := S1.box.cells;refine wrt 9 (by kernel_rfl) (by kernel_rfl) ?_;simp only [tK1, tK0, dP1, dP0];repeat (first | (refine zA0 (Eq.refl false) ?_; simp only [Act.put, sT2, sT1, sT0]) | (refine rWalk_step (fun K hK => ?_); go_simp; refine hK _ ?_; clear hK K))
   refine rWalk_nil ?_;intro w2 hb;clear g1 g2;have hw2 := (upB hw hb);clear hb Bp S1 hw;go_wp2_with fail;refine (ca _ (S.mesh.ee hw2) (S.map.ee hw2)).mono ?_;rintro e w3 ⟨rfl, hb⟩;have hw3 := (upB hw2 hb);clear hb ca hw2;go_wp2
   go_ret
   exact ⟨5, v, E, L, D, rfl, S.ee hw3, hI, HR.out, HS.out, by omega, by omega, Frm.of_below hw3⟩
  ·obtain ⟨hv, hu, hlen, L1, g1', t1', s1', n1'⟩ := add_good hW hH hI.good hI.fix.tiles hW0 hH0 hb0 hc0;have ca := fun w0 B1 H1 D1 => raddP_ok mb b db E p v D hE (by omega) (fun T hT => zB1 (hv T hT)) (fun T hT U hU => zB1 (hu T hT U hU)) (zKt hW hH hI.good hI.fix.tiles hW0 hH0 hb0) ((hI.good.star_nil p).2 hc0) w0 B1 H1 D1 (by omega) hI.kinds;have HR := Lib.hid (show AddRes W H L p 0 from .inr (.inr ⟨rfl, hb0, hc0⟩));have HS := Lib.hid (show ∀ q, someC L1 q ↔ someC L q ∨ (q = p ∧ inBox W H p) from fun q => by rw [s1' q]; simp [hb0]);have HL1 := Lib.hid (show L1.length ≤ L.length + 2 by rcases n1' with ⟨k, _⟩ | ⟨k, _⟩ <;> omega);have cr := fun a0 c n D1 w0 B1 H1 R1 => zG1 mb b db a0 c n (addPE E p) L1 D1 W H hW hH (by have := HL1.out; omega) g1' t1' w0 B1 H1 R1
   change ∀ (w0 : World) B1 H1 D1, Calls _ _ _ _ (AddPost b db E p v D w0) at ca
   clear hb0 hc0 hE hv hu hlen g1' t1' s1' n1'
   go_enter Tryz.func10, Tryz.ntmps10
   go_wp2_with fail;refine zA2 fun w1 hW' => ?_;have Bp : Box w1 w.heap.size [.int .i64 p.x, .int .i64 p.y] 30 := by rw [hW']; exact Box.new rfl
   have hw : Below w.heap.size w w1 := by rw [hW']; go_grown
   clear hW';have S1 := S.ee hw;have g1 := Bp.cells;have g2 := S1.box.cells;refine wrt 9 (by kernel_rfl) (by kernel_rfl) ?_;simp only [tK1, tK0, dP1, dP0];repeat (first | (refine zA0 (Eq.refl false) ?_; simp only [Act.put, sT2, sT1, sT0]) | (refine rWalk_step (fun K hK => ?_); go_simp; refine hK _ ?_; clear hK K))
   refine rWalk_nil ?_;intro w2 hb;clear g1 g2;have hw2 := (upB hw hb);clear hb Bp S1 hw;go_wp2_with fail;have S2 := S.ee hw2;refine (ca _ S2.mesh S2.map S2.doc).mono ?_;rintro e w3 ⟨v1, D1, rfl, H3, D3, hA, f3, _⟩;have nb : ∀ {x : Nat} {cs : List Value} {T : TypeId}, Box w2 x cs T → x ≠ b := fun h => h.ne_map S2.map;have S3 : CdtAt w3 cb mb b db v1 W H (addPE E p) D1 := ⟨f3.box S2.box (fun k => by rcases k with k | k; exact nb S2.box k; exact S.cdb k), f3.box S2.mesh (fun k => by rcases k with k | k; exact nb S2.mesh k; exact S.mdb k), H3, D3, S.cdb, S.mdb⟩;have F3 : Frm w w3 (fun k => k = b ∨ k = db) := (Frm.of_below hw2).trans f3;have hk := add_kinds hA hI.kinds;have HK := Lib.hid hk;clear nb ca H3 D3 hA f3 S2 hw2 hk;generalize addPE E p = E1 at *
   have g2 := S3.box.cells;go_wp2_with fail;refine wrt 8 (by kernel_rfl) (by kernel_rfl) ?_;simp only [tK1, tK0, dP1, dP0];repeat (first | (refine zA0 (Eq.refl false) ?_; simp only [Act.put, sT2, sT1, sT0]) | (refine rWalk_step (fun K hK => ?_); go_simp; refine hK _ ?_; clear hK K))
   refine rWalk_nil ?_;intro w4 hb;clear g2;have S4 := S3.ee hb;have F4 := F3.trans (Frm.of_below hb);clear hb S3 F3;obtain ⟨a9, c9, hv9, Dr, _⟩ := S4.doc.rd;have cr4 := cr a9 c9 D1.length D1 w4 S4.mesh S4.map Dr;clear cr hv9 Dr;go_wp2_with fail;refine cr4.mono ?_;rintro e w5 ⟨rfl, E2, L2, g5, H5, r5, f5⟩;have S5 : CdtAt w5 cb mb b db v1 W H E2 D1 := ⟨S4.box.turn S4.map g5, S4.mesh.turn S4.map g5, H5, S4.doc.turn S4.map g5, S.cdb, S.mdb⟩;have F5 := F4.trans2 (Frm.of_grown g5 (p := fun k => k = b) (fun g e => by cases e; rfl)) (fun k hk _ => .inl hk);have HI5 := Lib.hid (show CInv W H E2 L2 D1 from ⟨r5.good, f5, HK.out.1⟩);have HS5 := Lib.hid (show ∀ q, someC L2 q ↔ someC L q ∨ (q = p ∧ inBox W H p) from fun q => (r5.kept.cnr q).trans (HS.out q));have HL5 := Lib.hid (show L2.length ≤ L.length + 2 by rw [r5.kept.len]; exact HL1.out);clear cr4 g5 H5 r5 f5 S4 F4;go_wp2
   go_ret
   exact ⟨0, v1, E2, L2, D1, rfl, S5, HI5.out, HR.out, HS5.out, HL5.out, HK.out.2, F5⟩
 ·have ca := fun w0 B1 H1 => raddP_none mb b db E p hE w0 B1 H1 (at_none hI.good hI.fix.tiles hb0);have HR := Lib.hid (show AddRes W H L p 1 from .inl ⟨rfl, hb0⟩);have HS := Lib.hid (show ∀ q, someC L q ↔ someC L q ∨ (q = p ∧ inBox W H p) from fun q => ⟨.inl, fun k => by rcases k with k | ⟨_, k⟩; exact k; exact absurd k hb0⟩);clear hb0 hE
  go_enter Tryz.func10, Tryz.ntmps10
  go_wp2_with fail;refine zA2 fun w1 hW => ?_;have Bp : Box w1 w.heap.size [.int .i64 p.x, .int .i64 p.y] 30 := by rw [hW]; exact Box.new rfl
  have hw : Below w.heap.size w w1 := by rw [hW]; go_grown
  clear hW;have S1 := S.ee hw;have g1 := Bp.cells;have g2 := S1.box.cells;refine wrt 9 (by kernel_rfl) (by kernel_rfl) ?_;simp only [tK1, tK0, dP1, dP0];repeat (first | (refine zA0 (Eq.refl false) ?_; simp only [Act.put, sT2, sT1, sT0]) | (refine rWalk_step (fun K hK => ?_); go_simp; refine hK _ ?_; clear hK K))
  refine rWalk_nil ?_;intro w2 hb;clear g1 g2;have hw2 := (upB hw hb);clear hb Bp S1 hw;go_wp2_with fail;refine (ca _ (S.mesh.ee hw2) (S.map.ee hw2)).mono ?_;rintro e w3 ⟨rfl, hb⟩;have hw3 := (upB hw2 hb);clear hb ca hw2;go_wp2
  go_ret
  exact ⟨1, v, E, L, D, rfl, S.ee hw3, hI, HR.out, HS.out, by omega, by omega, Frm.of_below hw3⟩
theorem zEe (T : Tri3) (a b : Pt) (w : World) : Calls Tryz.prog 54 #[.agg #[.int .i64 T.A.x, .int .i64 T.A.y, .int .i64 T.B.x, .int .i64 T.B.y, .int .i64 T.C.x, .int .i64 T.C.y], .agg #[.int .i64 a.x, .int .i64 a.y], .agg #[.int .i64 b.x, .int .i64 b.y]] w fun e w' => e = .returned (.agg #[.int .i64 (apx T a b).x, .int .i64 (apx T a b).y]) ∧ Below w.heap.size w w' := by
 unfold apx;cases a0 : peqI T.A.x T.A.y a.x a.y with
 | false =>
  cases b0 : peqI T.A.x T.A.y b.x b.y with
  | false => rw [if_pos ⟨rfl, rfl⟩]; exact apex_0 T a b a0 b0 w
  | true =>
   rw [if_neg (by simp)];cases a1 : peqI T.B.x T.B.y a.x a.y with
   | false =>
    cases b1 : peqI T.B.x T.B.y b.x b.y with
    | false => rw [if_pos ⟨rfl, rfl⟩]; exact apex_20 T a b a0 b0 a1 b1 w
    | true => rw [if_neg (by simp)]; exact apex_22 T a b a0 b0 a1 b1 w
   | true => rw [if_neg (by simp)]; exact apex_21 T a b a0 b0 a1 w
 | true =>
  rw [if_neg (by simp)];cases a1 : peqI T.B.x T.B.y a.x a.y with
  | false =>
   cases b1 : peqI T.B.x T.B.y b.x b.y with
   | false => rw [if_pos ⟨rfl, rfl⟩]; exact apex_10 T a b a0 a1 b1 w
   | true => rw [if_neg (by simp)]; exact apex_12 T a b a0 a1 b1 w
  | true => rw [if_neg (by simp)]; exact apex_11 T a b a0 a1 w
theorem zHc (mb b : Nat) (E : Es) (a1 a2 : Option Addr) (cap1 cap2 n1 n2 : Nat) (L1 L2 : List Tri3) (hn1 : Hid (L1.length = n1)) (hm1 : n1 ≤ 1000000) (hok1 : ∀ T ∈ L1, okT T) (hn2 : Hid (L2.length = n2)) (hm2 : n2 ≤ 1000000) (hok2 : ∀ T ∈ L2, okT T) (h1 : (takeRun E L1).1 = n1) (h2 : (putRun (takeRun E L1).2 L2).1 = n2) (w : World) (Bm : Box w mb [.map (some b)] 98) (Hm : HoldsMap eW eT okW w b E) (Hr1 : RowAt cT 6 w a1 L1) (Hr2 : RowAt cT 6 w a2 L2) :
    Calls Tryz.prog 20 #[.pointer (some ⟨mb, 0, none⟩), .slice a1 n1 cap1, .slice a2 n2 cap2] w fun e w' => e = .returned (.int .i64 0) ∧ w.grownBy w' (some b) ∧ HoldsMap eW eT okW w' b (putRun (takeRun E L1).2 L2).2 := by
 have c1 := zEx mb b E a1 cap1 n1 L1 hn1 hm1 hok1;rw [h1] at c1;generalize (takeRun E L1).2 = F at *
 have c2 := zEa mb b F a2 cap2 n2 L2 hn2 hm2 hok2;rw [h2] at c2;generalize (putRun F L2).2 = G at *
 clear h1 h2 hok1 hok2 hn1 hn2;have d1 : decide ((n1 : Int) < (n1 : Int)) = false := by simp
 have d2 : decide ((n2 : Int) < (n2 : Int)) = false := by simp
 go_enter Tryz.func20, Tryz.ntmps20
 go_wp2_with fail;refine (c1 _ Bm Hm Hr1).mono ?_;rintro e w1 ⟨rfl, hg, H1⟩;replace Bm := Bm.turn Hm hg;replace Hr2 := Hr2.turn cT_ne Hm hg;clear Hm Hr1;go_wp2_with fail;refine (c2 _ Bm H1 Hr2).mono ?_;rintro e w2 ⟨rfl, hh, H2⟩;replace hg := zA9 hg hh;clear hh;go_wp2
 go_ret
 exact ⟨rfl, hg, H2⟩
theorem zAt {w : World} {g : Nat} {S : List Tri3} (h : Box w g (S.flatMap cT) 43) : RowAt cT 6 w (some ⟨g, 0, none⟩) S := fun j x hj => by
 have hl := (List.getElem?_eq_some_iff.1 hj);refine ⟨_, rfl, h.lt, fun i u hu => ?_⟩;have hi : i < 6 := (List.getElem?_eq_some_iff.1 hu).1;rw [Addr.add_lit, Addr.add_lit, h.f.1, Nat.zero_add, zBb zFs S j i x hj hi];exact hu
theorem zKq (mb b : Nat) (E : Es) (p q : Pt) (hk : okW (p, q)) (h0 : getE E (p, q) = none) (w : World) (Bm : Box w mb [.map (some b)] 98) (Hm : HoldsMap eW eT okW w b E) :
    Calls Tryz.prog 17 #[.pointer (some ⟨mb, 0, none⟩), .agg #[.int .i64 p.x, .int .i64 p.y], .agg #[.int .i64 q.x, .int .i64 q.y]] w fun e w' => e = .returned (.int .i64 16) ∧ Below w.heap.size w w' := by
 have cl := zKa mb b E p q h0 hk;clear h0
 go_enter Tryz.func17, Tryz.ntmps17
 go_wp2_with fail;refine zA1 fun W1 hW => ?_;obtain ⟨Bp, Bq, hw⟩ := N2 hW;clear hW;refine (cl _ (Bm.ee hw) (Hm.ee hw)).mono ?_;rintro e w2 ⟨rfl, hb⟩;obtain ⟨Bp, Bq, hw, F_pq⟩ := X2 Bp Bq hw hb;clear hb;go_wp2
 go_ret
 exact ⟨rfl, by have hl := hw.size; go_grown⟩
theorem flip_n1 (mb b : Nat) (E : Es) (p q : Pt) (hk : okW (p, q)) (S : Tri3) (h0 : getE E (p, q) = some S) (h1 : getE E (q, p) = none) (w : World) (Bm : Box w mb [.map (some b)] 98) (Hm : HoldsMap eW eT okW w b E) :
    Calls Tryz.prog 17 #[.pointer (some ⟨mb, 0, none⟩), .agg #[.int .i64 p.x, .int .i64 p.y], .agg #[.int .i64 q.x, .int .i64 q.y]] w fun e w' => e = .returned (.int .i64 16) ∧ Below w.heap.size w w' := by
 have cl := zGw mb b E p q S h0 hk;have cr := zKa mb b E q p h1 ⟨hk.2, hk.1⟩;clear h0 h1
 go_enter Tryz.func17, Tryz.ntmps17
 go_wp2_with fail;refine zA1 fun W1 hW => ?_;obtain ⟨Bp, Bq, hw⟩ := N2 hW;clear hW;refine (cl _ (Bm.ee hw) (Hm.ee hw)).mono ?_;rintro e w2 ⟨rfl, hb⟩;obtain ⟨Bp, Bq, hw, -⟩ := X2 Bp Bq hw hb;clear hb;have Fp := Bp.f;have Fq := Bq.f;go_wp2_with fail;clear Fp Fq;refine zA1 fun W3 hW => ?_;obtain ⟨bks, hbs⟩ : ∃ b, w2.heap.size = b := ⟨_, rfl⟩;rw [hbs];obtain ⟨lps, lqs, fs, Bs, Bp, Bq, hw⟩ := M2 hW hbs Bp Bq hw;clear hW hbs;refine (cr _ (Bm.ee hw) (Hm.ee hw)).mono ?_;rintro e w4 ⟨rfl, hb⟩;obtain ⟨Bp, Bq, Bs, hw, -⟩ := X3 Bp Bq Bs hw hb;clear hb;have Fp := Bp.f;have Fq := Bq.f;have Fs := Bs.f;go_wp2
 go_ret
 exact ⟨rfl, by have hl := hw.size; go_grown⟩
theorem flip_ok (mb b : Nat) (E : Es) (p q : Pt) (hk : okW (p, q)) (S R U V : Tri3) (C D : Pt) (h0 : getE E (p, q) = some S) (h1 : getE E (q, p) = some R) (hC : apx S p q = C) (hD : apx R p q = D) (hm : meetS p q C D = 1) (hU : mk C p D = U) (hV : mk D q C = V) (hS : okT S) (hR : okT R) (hu : okT U) (hv : okT V) (ht : (takeRun E [S, R]).1 = 2) (hp : (putRun (takeRun E [S, R]).2 [U, V]).1 = 2) (w : World) (Bm : Box w mb [.map (some b)] 98) (Hm : HoldsMap eW eT okW w b E) :
    Calls Tryz.prog 17 #[.pointer (some ⟨mb, 0, none⟩), .agg #[.int .i64 p.x, .int .i64 p.y], .agg #[.int .i64 q.x, .int .i64 q.y]] w fun e w' => e = .returned (.int .i64 0) ∧ w.grownBy w' (some b) ∧ HoldsMap eW eT okW w' b (putRun (takeRun E [S, R]).2 [U, V]).2 := by
 have cl := zGw mb b E p q S h0 hk;have cr := zGw mb b E q p R h1 ⟨hk.2, hk.1⟩;clear h0 h1;have ca := zEe S p q;have cb := zEe R p q;have cm := zHy p q C D;have cu := zEr C p D;have cv := zEr D q C;rw [hU] at cu;rw [hV] at cv;rw [hC] at ca;rw [hD] at cb;rw [hm] at cm;have cp := fun a1 a2 cap1 cap2 w B H R1 R2 => zHc mb b E a1 a2 cap1 cap2 2 2 [S, R] [U, V] (Lib.hid rfl) (by decide) (by simpa using ⟨hS, hR⟩) (Lib.hid rfl) (by decide) (by simpa using ⟨hu, hv⟩) ht hp w B H R1 R2;clear hU hV hC hD hm hS hR hu hv ht hp
 go_enter Tryz.func17, Tryz.ntmps17
 go_wp2_with fail;refine zA1 fun W1 hW => ?_;obtain ⟨Bp, Bq, hw⟩ := N2 hW;clear hW;refine (cl _ (Bm.ee hw) (Hm.ee hw)).mono ?_;rintro e w2 ⟨rfl, hb⟩;obtain ⟨Bp, Bq, hw, -⟩ := X2 Bp Bq hw hb;clear hb;have Fp := Bp.f;have Fq := Bq.f;go_wp2_with fail;clear Fp Fq;refine zA1 fun W3 hW => ?_;obtain ⟨bks, hbs⟩ : ∃ b, w2.heap.size = b := ⟨_, rfl⟩;rw [hbs];obtain ⟨lps, lqs, fs, Bs, Bp, Bq, hw⟩ := M2 hW hbs Bp Bq hw;clear hW hbs;refine (cr _ (Bm.ee hw) (Hm.ee hw)).mono ?_;rintro e w4 ⟨rfl, hb⟩;obtain ⟨Bp, Bq, Bs, hw, -⟩ := X3 Bp Bq Bs hw hb;clear hb;have Fp := Bp.f;have Fq := Bq.f;have Fs := Bs.f;go_wp2_with fail;clear Fp Fq Fs;refine zA2 fun W5 hW => ?_;obtain ⟨bkr, hbr⟩ : ∃ b, w4.heap.size = b := ⟨_, rfl⟩;rw [hbr];obtain ⟨lpr, lqr, lsr, fr, Br, Bp, Bq, Bs, hw⟩ := M3 hW hbr Bp Bq Bs hw;clear hW hbr;have g_pqsr := J4 Bp.cells Bq.cells Bs.cells Br.cells;refine zAq 10 [⟨8, 10, 30, [.int .i64 0, .int .i64 0]⟩, ⟨9, 11, 30, [.int .i64 0, .int .i64 0]⟩] ?_ (by kernel_rfl) (by decide) (by decide) (by kernel_rfl) (by decide) (C := fun w' => ∃ p : Regrown, w' = grow (redrawn W5 p.d) p.os) rgB ?_
 ·simp only [List.forall_mem_cons];refine ⟨⟨_, rfl, rfl, rfl, rfl, fun ρ W => by simp [execOp, go_sem]⟩, ⟨_, rfl, rfl, rfl, rfl, fun ρ W => by simp [execOp, go_sem]⟩, fun _ h => (by cases h)⟩
 simp only [List.take_succ_cons, List.take_zero, List.map_cons, List.map_nil, dropIdx, List.contains_cons, List.contains_nil, Nat.reduceBEq, Nat.reduceAdd, Bool.or_false, Bool.or_true, Bool.or_self, Bool.false_eq_true, if_true, if_false];repeat (first | (refine zA0 (Eq.refl false) ?_; simp only [Act.put, sT2, sT1, sT0]) | (refine rWalk_step (fun K hK => ?_); go_simp; first | (refine hK _ ?_; clear hK K) | (apply Exists.intro; refine ⟨fun _ => ?_, hK _ ?_⟩; (first | with_reducible exact toExt ca _ | with_reducible exact toExt cb _); clear hK K)))
 refine rWalk_nil ?_;intro w6 β hL;simp only [putD, List.drop_succ_cons, List.drop_zero];have qc := hL.box ⟨8, 10, 30, [.int .i64 0, .int .i64 0]⟩ (by simp) (by simp);simp only at qc;have qd := hL.box ⟨9, 11, 30, [.int .i64 0, .int .i64 0]⟩ (by simp) (by simp);simp only at qd;have ncd := hL.apart 10 (by simp) 11 (by simp) (by decide);have ndc := hL.apart 11 (by simp) 10 (by simp) (by decide);have hb := hL.below;have lp := Bp.lt;have lq := Bq.lt;have ls := Bs.lt;have lr := Br.lt;clear g_pqsr;replace Bp := Bp.ee hb;replace Bq := Bq.ee hb;replace Bs := Bs.ee hb;replace Br := Br.ee hb;have hw0 := hw.size;replace hw := upB hw hb;clear hb hL;generalize β 10 = bkc at *
 generalize β 11 = bkd at *
 clear β;obtain ⟨fc, Bc⟩ := qc;obtain ⟨fd, Bd⟩ := qd;simp only [Act.put];have Fc := Bc.f;have Fd := Bd.f;have Fp := Bp.f;have Fq := Bq.f;have Fs := Bs.f;have Fr := Br.f;have epbkc : (w.heap.size = bkc) = False := by simp; omega
 have epbkc' : (bkc = w.heap.size) = False := by simp; omega
 have epbkd : (w.heap.size = bkd) = False := by simp; omega
 have epbkd' : (bkd = w.heap.size) = False := by simp; omega
 have eqbkc : (w.heap.size + 1 = bkc) = False := by simp; omega
 have eqbkc' : (bkc = w.heap.size + 1) = False := by simp; omega
 have eqbkd : (w.heap.size + 1 = bkd) = False := by simp; omega
 have eqbkd' : (bkd = w.heap.size + 1) = False := by simp; omega
 have esbkc : (bks = bkc) = False := by simp; omega
 have esbkc' : (bkc = bks) = False := by simp; omega
 have esbkd : (bks = bkd) = False := by simp; omega
 have esbkd' : (bkd = bks) = False := by simp; omega
 have erbkc : (bkr = bkc) = False := by simp; omega
 have erbkc' : (bkc = bkr) = False := by simp; omega
 have erbkd : (bkr = bkd) = False := by simp; omega
 have erbkd' : (bkd = bkr) = False := by simp; omega
 have ebkcbkd : (bkc = bkd) = False := by simp; omega
 have ebkdbkc : (bkd = bkc) = False := by simp; omega
 go_wp2_with fail;refine zA1 fun W7 hW => ?_;have Cp : Box W7 (w.heap.size) [.int .i64 p.x, .int .i64 p.y] 30 := by rw [hW]; exact ((((Bp.sn bkc 0 (.int .i64 C.x) (by first | assumption | omega)).sn bkc 1 (.int .i64 C.y) (by first | assumption | omega)).sn bkd 0 (.int .i64 D.x) (by first | assumption | omega)).sn bkd 1 (.int .i64 D.y) (by first | assumption | omega))
 have Cq : Box W7 (w.heap.size + 1) [.int .i64 q.x, .int .i64 q.y] 30 := by rw [hW]; exact ((((Bq.sn bkc 0 (.int .i64 C.x) (by first | assumption | omega)).sn bkc 1 (.int .i64 C.y) (by first | assumption | omega)).sn bkd 0 (.int .i64 D.x) (by first | assumption | omega)).sn bkd 1 (.int .i64 D.y) (by first | assumption | omega))
 have Cs : Box W7 (bks) [.int .i64 S.A.x, .int .i64 S.A.y, .int .i64 S.B.x, .int .i64 S.B.y, .int .i64 S.C.x, .int .i64 S.C.y] 43 := by rw [hW]; exact ((((Bs.sn bkc 0 (.int .i64 C.x) (by first | assumption | omega)).sn bkc 1 (.int .i64 C.y) (by first | assumption | omega)).sn bkd 0 (.int .i64 D.x) (by first | assumption | omega)).sn bkd 1 (.int .i64 D.y) (by first | assumption | omega))
 have Cr : Box W7 (bkr) [.int .i64 R.A.x, .int .i64 R.A.y, .int .i64 R.B.x, .int .i64 R.B.y, .int .i64 R.C.x, .int .i64 R.C.y] 43 := by rw [hW]; exact ((((Br.sn bkc 0 (.int .i64 C.x) (by first | assumption | omega)).sn bkc 1 (.int .i64 C.y) (by first | assumption | omega)).sn bkd 0 (.int .i64 D.x) (by first | assumption | omega)).sn bkd 1 (.int .i64 D.y) (by first | assumption | omega))
 have Cc : Box W7 (bkc) [.int .i64 C.x, .int .i64 C.y] 30 := by rw [hW]; exact ((((Bc.set 0 (.int .i64 C.x)).set 1 (.int .i64 C.y)).sn bkd 0 (.int .i64 D.x) (by first | assumption | omega)).sn bkd 1 (.int .i64 D.y) (by first | assumption | omega))
 have Cd : Box W7 (bkd) [.int .i64 D.x, .int .i64 D.y] 30 := by rw [hW]; exact ((((Bd.sn bkc 0 (.int .i64 C.x) (by first | assumption | omega)).sn bkc 1 (.int .i64 C.y) (by first | assumption | omega)).set 0 (.int .i64 D.x)).set 1 (.int .i64 D.y))
 replace hw : Below w.heap.size w W7 := by have hl := hw.size; rw [hW]; go_grown
 clear Fc Fd;clear Fp Fq Fs Fr epbkc epbkc' epbkd epbkd' eqbkc eqbkc' eqbkd eqbkd' esbkc esbkc' esbkd esbkd' erbkc erbkc' erbkd erbkd' ebkcbkd ebkdbkc;clear hW Bp Bq Bs Br Bc Bd;have Bp := Cp;have Bq := Cq;have Bs := Cs;have Br := Cr;have Bc := Cc;have Bd := Cd;clear Cp Cq Cs Cr Cc Cd;refine (cm _).mono ?_;rintro e w8 ⟨rfl, hb⟩;obtain ⟨Bp, Bq, Bs, Br, Bc, Bd, hw, -⟩ := X6 Bp Bq Bs Br Bc Bd hw hb;clear hb;have Fp := Bp.f;have Fq := Bq.f;have Fs := Bs.f;have Fr := Br.f;have Fc := Bc.f;have Fd := Bd.f;go_wp2_with fail;refine (cu _).mono ?_;rintro e w9 ⟨rfl, hb⟩;clear Fp Fq Fs Fr Fc Fd;obtain ⟨Bp, Bq, Bs, Br, Bc, Bd, hw, -⟩ := X6 Bp Bq Bs Br Bc Bd hw hb;clear hb;have Fp := Bp.f;have Fq := Bq.f;have Fs := Bs.f;have Fr := Br.f;have Fc := Bc.f;have Fd := Bd.f;go_wp2_with fail;clear Fp Fq Fs Fr Fc Fd;refine zA1 fun W10 hW => ?_;obtain ⟨bku, hbu⟩ : ∃ b, w9.heap.size = b := ⟨_, rfl⟩;rw [hbu];obtain ⟨lpu, lqu, lsu, lru, lcu, ldu, fu, Bu, Bp, Bq, Bs, Br, Bc, Bd, hw⟩ := M6 hW hbu Bp Bq Bs Br Bc Bd hw;clear hW hbu;refine (cv _).mono ?_;rintro e w11 ⟨rfl, hb⟩;obtain ⟨Bp, Bq, Bs, Br, Bc, Bd, Bu, hw, -⟩ := X7 Bp Bq Bs Br Bc Bd Bu hw hb;clear hb;have Fp := Bp.f;have Fq := Bq.f;have Fs := Bs.f;have Fr := Br.f;have Fc := Bc.f;have Fd := Bd.f;have Fu := Bu.f;have es4 : (bks = w11.heap.size + 1) = False := by have := Bs.lt; simp; omega
 have es8 : (bks = w11.heap.size + 1 + 1) = False := by have := Bs.lt; simp; omega
 have er4 : (bkr = w11.heap.size + 1) = False := by have := Br.lt; simp; omega
 have er8 : (bkr = w11.heap.size + 1 + 1) = False := by have := Br.lt; simp; omega
 have eu4 : (bku = w11.heap.size + 1) = False := by have := Bu.lt; simp; omega
 have eu8 : (bku = w11.heap.size + 1 + 1) = False := by have := Bu.lt; simp; omega
 go_wp2_with fail;have row : ∀ {w : World} {g : Nat} {X Y : Tri3}, Box w g (cT X ++ cT Y) 43 → RowAt cT 6 w (some ⟨g, 0, none⟩) [X, Y] := fun {w g X Y} h => zAt (S := [X, Y]) (by simpa using h);refine zA1 fun W12 hW => ?_;have R1 : RowAt cT 6 W12 (some ⟨w11.heap.size + 1, 0, none⟩) [S, R] := row (by rw [hW]; exact (Box.new (by simp)).old _);have R2 : RowAt cT 6 W12 (some ⟨w11.heap.size + 1 + 1, 0, none⟩) [U, V] := row (by rw [hW]; exact Box.new (by simp));replace hw : Below w.heap.size w W12 := by have hl := hw.size; rw [hW]; go_grown
 clear hW row;have hlt := Hm.lt;refine (cp _ _ _ _ _ (Bm.ee hw) (Hm.ee hw) R1 R2).mono ?_;rintro e w13 ⟨rfl, hg, H2⟩;replace hg := zHs hw hg;clear Fp Fq Fs Fr Fc Fd Fu;go_wp2
 go_ret
 exact ⟨rfl, hg, H2⟩
def eff5 (c0 c1 c2 c3 c4 : Value) (b : Nat) (w : World) : World := ((((w.setCell ⟨b, 0, none⟩ c0).setCell ⟨b, 1, none⟩ c1).setCell ⟨b, 2, none⟩ c2).setCell ⟨b, 3, none⟩ c3).setCell ⟨b, 4, none⟩ c4
theorem zF0 {c0 c1 c2 c3 c4 z : Value} {T : TypeId} (w : World) (b : Nat) (h : w.heap[b]? = some (.cells [z, z, z, z, z].toArray T)) : (eff5 c0 c1 c2 c3 c4 b w).heap[b]? = some (.cells [c0, c1, c2, c3, c4].toArray T) ∧ (∀ B, B ≤ b → Below B w (eff5 c0 c1 c2 c3 c4 b w)) := by
 have B0 : Box w b [z, z, z, z, z] T := h;exact ⟨((((B0.set 0 c0).set 1 c1).set 2 c2).set 3 c3).set 4 c4, fun B hB => (((((Below.refl B w).setCell hB _).setCell hB _).setCell hB _).setCell hB _).setCell hB _⟩
theorem rsquare_any (W H : Int) (w : World) :
    Calls Tryz.prog 46 #[.int .i64 W, .int .i64 H] w fun e w' => e = .returned (.agg #[.int .i64 0, .int .i64 0, .int .i64 W, .int .i64 0, .int .i64 W, .int .i64 H, .int .i64 0, .int .i64 H]) ∧ Below w.heap.size w w' := by
 go_enter Tryz.func46, Tryz.ntmps46
 go_wp2_with fail;generalize hW : w.alloc (.cells #[.int .i64 0, .int .i64 0, .int .i64 W, .int .i64 0, .int .i64 W, .int .i64 H, .int .i64 0, .int .i64 H] 88) = W1
 have Bq : Box W1 w.heap.size [.int .i64 0, .int .i64 0, .int .i64 W, .int .i64 0, .int .i64 W, .int .i64 H, .int .i64 0, .int .i64 H] 88 := by rw [← hW]; exact Box.new rfl
 have hw : Below w.heap.size w W1 := by rw [← hW]; go_grown
 clear hW;have Fq := Bq.f;refine bodyPost_ret (v := .agg #[.int .i64 0, .int .i64 0, .int .i64 W, .int .i64 0, .int .i64 W, .int .i64 H, .int .i64 0, .int .i64 H]) (by simp [results, Tryz.results46, go_sem, Fq]) rfl ⟨rfl, hw⟩
def sqP (W H : Int) (k : Nat) : Pt := if k % 4 = 0 then ⟨0, 0⟩ else if k % 4 = 1 then ⟨W, 0⟩ else if k % 4 = 2 then ⟨W, H⟩ else ⟨0, H⟩
def sqW (W H : Int) (k : Nat) : Wl := mkW (sqP W H k) (sqP W H (k + 1)) 2
theorem zCf (a b : Pt) : 0 ≤ (mkW a b 2).K ∧ (mkW a b 2).K ≤ 2 := by
 unfold mkW; split <;> simp
def NewCPost (W H : Int) (w : World) (e : Ending) (w' : World) : Prop :=
 ∃ cb mb b db v E L D, e = .returned (.pointer (some ⟨cb, 0, none⟩)) ∧ CdtAt w' cb mb b db v W H E D ∧ CInv W H E L D ∧ L.length = 2 ∧ (∀ q, someC L q ↔ q = ⟨0, 0⟩ ∨ q = ⟨W, 0⟩ ∨ q = ⟨W, H⟩ ∨ q = ⟨0, H⟩) ∧ D.Perm [sqW W H 0, sqW W H 1, sqW W H 2, sqW W H 3] ∧ Below w.heap.size w w' ∧ w.heap.size ≤ b ∧ w.heap.size ≤ db ∧ w.heap.size ≤ mb ∧ w.heap.size ≤ cb
theorem rnewcdt_any (W H : Int) (hW0 : 0 < W) (hH0 : 0 < H) (hW : W < 16777216) (hH : H < 16777216) (w : World) :
    Calls Tryz.prog 9 #[.int .i64 W, .int .i64 H] w (NewCPost W H w) := by
 have k1 : decide (W < 1) = false := by simp; omega
 have k2 : decide (16777216 ≤ W) = false := by simp; omega
 have k3 : decide (H < 1) = false := by simp; omega
 have k4 : decide (16777216 ≤ H) = false := by simp; omega
 have vb : ∀ q, inBox W H q → vld q = true := fun q hq => by rw [zAx]; unfold inBox at hq; omega
 have v0 : vld (⟨0, 0⟩ : Pt) = true := vb _ (by unfold inBox; simp only; omega);have v1 : vld (⟨W, 0⟩ : Pt) = true := vb _ (by unfold inBox; simp only; omega);have v2 : vld (⟨W, H⟩ : Pt) = true := vb _ (by unfold inBox; simp only; omega);have v3 : vld (⟨0, H⟩ : Pt) = true := vb _ (by unfold inBox; simp only; omega);have pWH := Int.mul_pos hW0 hH0;have d1 : 0 < det (⟨0, 0⟩ : Pt) ⟨W, 0⟩ ⟨W, H⟩ := by
  have : det (⟨0, 0⟩ : Pt) ⟨W, 0⟩ ⟨W, H⟩ = W * H := by unfold det; grind
  omega
 have d2 : 0 < det (⟨0, 0⟩ : Pt) ⟨W, H⟩ ⟨0, H⟩ := by
  have : det (⟨0, 0⟩ : Pt) ⟨W, H⟩ ⟨0, H⟩ = W * H := by unfold det; grind
  omega
 obtain ⟨cX, vX⟩ := zB2 v0 v1 v2 d1;obtain ⟨cY, vY⟩ := zB2 v0 v2 v3 d2;have tS := tiles_square hW0 hH0 cX cY;have o1 : ¬ ori (⟨0, 0⟩ : Pt) ⟨W, 0⟩ ⟨W, H⟩ = 0 := by rw [ori_v v0 v1 v2, zBp]; omega
 have o2 : ¬ ori (⟨0, 0⟩ : Pt) ⟨W, H⟩ ⟨0, H⟩ = 0 := by rw [ori_v v0 v2 v3, zBp]; omega
 have c1 := zB9 ⟨0, 0⟩ ⟨W, 0⟩ ⟨W, H⟩;have c2 := zB9 ⟨0, 0⟩ ⟨W, H⟩ ⟨0, H⟩;rw [show (!decide (ori (⟨0, 0⟩ : Pt) ⟨W, 0⟩ ⟨W, H⟩ = 0)) = true by simp [o1]] at c1;rw [show (!decide (ori (⟨0, 0⟩ : Pt) ⟨W, H⟩ ⟨0, H⟩ = 0)) = true by simp [o2]] at c2;dsimp only at c1 c2;have HC := Lib.hid (show ∀ q, someC [mk ⟨0, 0⟩ ⟨W, 0⟩ ⟨W, H⟩, mk ⟨0, 0⟩ ⟨W, H⟩ ⟨0, H⟩] q ↔ q = ⟨0, 0⟩ ∨ q = ⟨W, 0⟩ ∨ q = ⟨W, H⟩ ∨ q = ⟨0, H⟩ from fun q => by
  simp only [zDo, cX.cnr_iff, cY.cnr_iff, iff_false_intro (zEs q), or_false];constructor
  ·rintro ((k | k | k) | (k | k | k)) <;> simp [k]
  ·rintro (k | k | k | k) <;> simp [k])
 generalize mk ⟨0, 0⟩ ⟨W, 0⟩ ⟨W, H⟩ = X at *
 generalize mk ⟨0, 0⟩ ⟨W, H⟩ ⟨0, H⟩ = Y at *
 have hok : ∀ T ∈ [X, Y], okT T := fun T hT => by
  simp only [List.mem_cons, List.not_mem_nil, or_false] at hT;rcases hT with rfl | rfl
  ·exact zB1 vX
  ·exact zB1 vY
 have gp := Good.puts (I := [X, Y]) (E := []) (M := []) ⟨.refl _, List.nodup_nil, fun T hT => by cases hT⟩ (fun T hT => by
  simp only [List.mem_cons, List.not_mem_nil, or_false] at hT;rcases hT with rfl | rfl
  ·exact vX
  ·exact vY) tS.once
 have cn := fun a w0 R => rnew_any a 2 2 [X, Y] (Lib.hid rfl) (by omega) hok w0 R;have HT := Lib.hid tS;have HG := Lib.hid gp;have cs := rsquare_any W H;clear v0 v1 v2 v3 vb d1 d2 o1 o2 cX cY vX vY hok tS gp pWH
 go_enter Tryz.func9, Tryz.ntmps9
 go_wp2_with fail;refine (cs _).mono ?_;rintro e w1 ⟨rfl, hb⟩;have hw := hb;clear hb;go_wp2_with fail;refine zA1 fun W2 hW => ?_;obtain ⟨bkq, hbq⟩ : ∃ b, w1.heap.size = b := ⟨_, rfl⟩;rw [hbq];obtain ⟨fq, Bq, hw⟩ := M0 hW hbq hw;clear hW hbq;refine (c1 _).mono ?_;rintro e w3 ⟨rfl, hb⟩;obtain ⟨Bq, hw, Fq⟩ := X1 Bq hw hb;clear hb;go_wp2_with fail;clear Fq;refine zA1 fun W4 hW => ?_;obtain ⟨bkx, hbx⟩ : ∃ b, w3.heap.size = b := ⟨_, rfl⟩;rw [hbx];obtain ⟨lqx, fx, Bx, Bq, hw⟩ := M1 hW hbx Bq hw;clear hW hbx;refine (c2 _).mono ?_;rintro e w5 ⟨rfl, hb⟩;obtain ⟨Bq, Bx, hw, -⟩ := X2 Bq Bx hw hb;clear hb;have Fq := Bq.f;have Fx := Bx.f;go_wp2_with fail;clear Fq Fx;refine zA1 fun W9 hW => ?_;have R1 : RowAt cT 6 W9 (some ⟨w5.heap.size + 1, 0, none⟩) [X, Y] := zAt (S := [X, Y]) (by rw [hW]; exact Box.new (by simp));have Bq9 : Box W9 bkq [.int .i64 0, .int .i64 0, .int .i64 W, .int .i64 0, .int .i64 W, .int .i64 H, .int .i64 0, .int .i64 H] 88 := by rw [hW]; exact (Bq.old _).old _
 replace hw : Below w.heap.size w W9 := by have := hw.size; rw [hW]; go_grown
 have lq := Bq.lt;have lq9 := Bq9.lt;clear hW Bq Bx;refine (cn _ _ R1).mono ?_;rintro e w10 hpost;unfold RNewPost at hpost;obtain ⟨mb, b, rfl, BM, HM, hbl, hml, hb, _⟩ | ⟨_, _, h⟩ := hpost
 rotate_left
 ·exact absurd h (by rw [HG.out.1]; simp)
 have Bq10 := Bq9.ee hb;have hw10 := (upB hw hb);have hl1 := hw.size;replace hbl := Nat.le_trans hl1 hbl;replace hml := Nat.le_trans hl1 hml;have lm := BM.lt;have lb := HM.lt;have lq10 := Bq10.lt;generalize (putRun [] [X, Y]).2 = E at *
 have HG := Lib.hid HG.out.2;clear hb cn R1 Bq9 hw c1 c2 cs;go_wp2;refine zA2 fun W11 hW => ?_;have So : DocAt W11 w10.heap.size (.slice none 0 0) [] := ⟨by rw [hW]; exact (Box.new rfl).old _, World.ownsRow_nil _ _ _ _, by simp [Value.ownBlock], by simp⟩;have Bc : Box W11 (w10.heap.size + 1) [.int .i64 W, .int .i64 H, .pointer (some ⟨mb, 0, none⟩), .pointer (some ⟨w10.heap.size, 0, none⟩)] 39 := by rw [hW]; exact Box.new (by simp)
 have Bq : Box W11 bkq [.int .i64 0, .int .i64 0, .int .i64 W, .int .i64 0, .int .i64 W, .int .i64 H, .int .i64 0, .int .i64 H] 88 := by rw [hW]; exact (Bq10.old _).old _
 have Bm : Box W11 mb [.map (some b)] 54 := by rw [hW]; exact (BM.old _).old _
 have Hm : HoldsMap eW eT okW W11 b E := by rw [hW]; exact (HM.alloc _).alloc _
 have hw : Below w.heap.size w W11 := by have := hw10.size; rw [hW]; go_grown
 have hws := hw10.size;clear hW BM HM Bq10 hw10;obtain ⟨db, hdb⟩ : ∃ db, w10.heap.size = db := ⟨_, rfl⟩;rw [hdb] at So Bc lm lb lq10 hws;rw [hdb];clear hdb;have HP0 := Lib.hid (show ([] : List Wl).Perm ((List.range 0).map (sqW W H)) from .refl _)
 go_loopw [11] (fun v11 wr => ∃ (k : Nat) (j : Int) (v : Value) (D : List Wl), k ≤ 4 ∧ v11 = .int .i64 j ∧ Hid (j = k) ∧ DocAt wr db v D ∧ Hid (D.Perm ((List.range k).map (sqW W H))) ∧ Box wr bkq [.int .i64 0, .int .i64 0, .int .i64 W, .int .i64 0, .int .i64 W, .int .i64 H, .int .i64 0, .int .i64 H] 88 ∧ Box wr (db + 1) [.int .i64 W, .int .i64 H, .pointer (some ⟨mb, 0, none⟩), .pointer (some ⟨db, 0, none⟩)] 39 ∧ Box wr mb [.map (some b)] 54 ∧ HoldsMap eW eT okW wr b E ∧ Below w.heap.size w wr) (fun v11 _ => 4 - (intOf v11).toNat)
 case atStart => exact ⟨0, 0, _, [], by omega, rfl, Lib.hid rfl, So, HP0, Bq, Bc, Bm, Hm, hw⟩
 case round =>
  clear So Bq Bc Bm Hm hw HP0;obtain ⟨k, j, v, D, hk, rfl, hj, So, HP, Bq, Bc, Bm, Hm, hw⟩ := hrel;have hk' : k = 0 ∨ k = 1 ∨ k = 2 ∨ k = 3 ∨ k = 4 := by omega
  rcases hk' with rfl | rfl | rfl | rfl | rfl
  ·have hj : j = 0 := by simpa using hj.out
   subst hj;have cw := zI7 ⟨0, 0⟩ ⟨W, 0⟩ 2;have HZ := Lib.hid (show (List.range (0 + 1)).map (sqW W H) = (List.range 0).map (sqW W H) ++ [mkW ⟨0, 0⟩ ⟨W, 0⟩ 2] by rw [List.range_succ, List.map_append]; rfl);have hZk := zCf ⟨0, 0⟩ ⟨W, 0⟩;dsimp only at cw;generalize mkW ⟨0, 0⟩ ⟨W, 0⟩ 2 = Z at *
   generalize mkOk ⟨0, 0⟩ ⟨W, 0⟩ 2 = zk at *
   have hq1 : IntKind.i64.wrap (0 + 1) = 1 := by decide
   have hq2 : IntKind.i64.wrap 1 = 1 := by decide
   have Fq := Bq.f;have Fc := Bc.f;go_wp2_with fail;have gq := Bq.cells;have gc := Bc.cells;refine zA3 12 12 75 [.int .i64 Z.A.x, .int .i64 Z.A.y, .int .i64 Z.B.x, .int .i64 Z.B.y, .int .i64 Z.K] (zs := [.int .i64 0, .int .i64 0, .int .i64 0, .int .i64 0, .int .i64 0]) (eff := eff5 (.int .i64 Z.A.x) (.int .i64 Z.A.y) (.int .i64 Z.B.x) (.int .i64 Z.B.y) (.int .i64 Z.K)) zF0 rfl rfl rfl rfl rfl rfl rfl (by simp) (fun ρ W => by simp [execOp, go_sem]; rfl) (by kernel_rfl) (by as_aux_lemma => kernel_rfl) (C := fun w' => ∃ p : Regrown, w' = grow (redrawn wr p.d) p.os) rgB ?_ (fun ρ W b e1 e2 hB => by obtain ⟨x, y, _, _⟩ := hB.f; simp [execOp, go_sem, e1, e2, x, y, eff5]);simp only [tK1, tK0, dP1, dP0];repeat (first | (refine zA0 (Eq.refl false) ?_; simp only [Act.put, sT2, sT1, sT0]) | (refine rWalk_step (fun K hK => ?_); go_simp; first | (refine hK _ ?_; clear hK K) | (apply Exists.intro; refine ⟨fun _ => ?_, hK _ ?_⟩; (first | with_reducible exact toExt cw _); clear hK K)))
   refine rWalk_nil ⟨rfl, ?_⟩;intro w41 bkz hb h1b h2b Bz;have lqz := Bq.lt;have lcz := Bc.lt;have hw0z := hw.size;clear gq gc;clear Fq Fc;obtain ⟨Bq, Bc, hw, -⟩ := X2 Bq Bc hw hb;have fz := h1b;have hwz : w.heap.size ≤ wr.heap.size := hw0z;replace So := So.ee hb;replace Bm := Bm.ee hb;replace Hm := Hm.ee hb;clear hb h1b h2b hw0z;simp only [Act.put];have Fq := Bq.f;have Fc := Bc.f;have Fz := Bz.f;go_wp2_with fail;clear Fq Fc Fz;have gc := Bc.cells;have gz := Bz.cells;refine wrt 5 (by kernel_rfl) (by kernel_rfl) ?_;simp only [tK1, tK0, dP1, dP0];repeat (first | (refine zA0 (Eq.refl false) ?_; simp only [Act.put, sT2, sT1, sT0]) | (refine rWalk_step (fun K hK => ?_); go_simp; refine hK _ ?_; clear hK K))
   refine rWalk_nil ?_;intro w60 hb;clear gc gz;replace So := So.ee hb;replace Bm := Bm.ee hb;replace Hm := Hm.ee hb;obtain ⟨Bq, Bc, hw, -⟩ := X2 Bq Bc hw hb;clear hb Bz;have hlD : D.length = 0 := by have := HP.out.length_eq; simpa using this
   have hkD : ∀ x ∈ D, 0 ≤ x.K ∧ x.K ≤ 2 := fun x hx => by
    obtain ⟨i, _, rfl⟩ := List.mem_map.1 (HP.out.mem_iff.1 hx);exact zCf _ _
   have cp := zDf db v D Z (by omega) hkD hZk w60 So;clear hlD hkD;go_wp2_with fail;refine cp.mono ?_;rintro e w61 ⟨kp, v', rfl, hk5, So5, hf5, hv5⟩;have hdw : w.heap.size ≤ db := hws;have hbd : (some b) ≠ (some db) := fun e => So.box.ne_map Hm (Option.some.inj e).symm;have Bq5 := hf5.box Bq (by omega);have Bc5 := hf5.box Bc (by omega);have Bm5 := hf5.box Bm (by omega);have Hm5 := Hm.kept hf5.grown hbd;have hw5 := hw.trans (hf5.below (n := w.heap.size) (fun k hk => by rw [hk]; exact hdw) hw.size);have HP5 := Lib.hid (show (D.take kp ++ Z :: D.drop kp).Perm ((List.range (0 + 1)).map (sqW W H)) by
    rw [HZ.out];exact (zE6 kp).trans ((HP.out.cons _).trans (List.perm_append_comm (l₁ := [Z]))))
   clear cp HP HZ hk5 hf5 hv5 So Bq Bc Bm Hm hw;go_wp2
   go_roundw
   case rel => exact ⟨1, 1, v', _, by omega, by first | rfl | go_num, Lib.hid rfl, So5, HP5, Bq5, Bc5, Bm5, Hm5, hw5⟩
   case measure => simp [intOf]
  ·have hj : j = 1 := by simpa using hj.out
   subst hj;have cw := zI7 ⟨W, 0⟩ ⟨W, H⟩ 2;have HZ := Lib.hid (show (List.range (1 + 1)).map (sqW W H) = (List.range 1).map (sqW W H) ++ [mkW ⟨W, 0⟩ ⟨W, H⟩ 2] by rw [List.range_succ, List.map_append]; rfl);have hZk := zCf ⟨W, 0⟩ ⟨W, H⟩;dsimp only at cw;generalize mkW ⟨W, 0⟩ ⟨W, H⟩ 2 = Z at *
   generalize mkOk ⟨W, 0⟩ ⟨W, H⟩ 2 = zk at *
   have hq1 : IntKind.i64.wrap (1 + 1) = 2 := by decide
   have hq2 : IntKind.i64.wrap 2 = 2 := by decide
   have Fq := Bq.f;have Fc := Bc.f;go_wp2_with fail;have gq := Bq.cells;have gc := Bc.cells;refine zA3 12 12 75 [.int .i64 Z.A.x, .int .i64 Z.A.y, .int .i64 Z.B.x, .int .i64 Z.B.y, .int .i64 Z.K] (zs := [.int .i64 0, .int .i64 0, .int .i64 0, .int .i64 0, .int .i64 0]) (eff := eff5 (.int .i64 Z.A.x) (.int .i64 Z.A.y) (.int .i64 Z.B.x) (.int .i64 Z.B.y) (.int .i64 Z.K)) zF0 rfl rfl rfl rfl rfl rfl rfl (by simp) (fun ρ W => by simp [execOp, go_sem]; rfl) (by kernel_rfl) (by as_aux_lemma => kernel_rfl) (C := fun w' => ∃ p : Regrown, w' = grow (redrawn wr p.d) p.os) rgB ?_ (fun ρ W b e1 e2 hB => by obtain ⟨x, y, _, _⟩ := hB.f; simp [execOp, go_sem, e1, e2, x, y, eff5]);simp only [tK1, tK0, dP1, dP0];repeat (first | (refine zA0 (Eq.refl false) ?_; simp only [Act.put, sT2, sT1, sT0]) | (refine rWalk_step (fun K hK => ?_); go_simp; first | (refine hK _ ?_; clear hK K) | (apply Exists.intro; refine ⟨fun _ => ?_, hK _ ?_⟩; (first | with_reducible exact toExt cw _); clear hK K)))
   refine rWalk_nil ⟨rfl, ?_⟩;intro w41 bkz hb h1b h2b Bz;have lqz := Bq.lt;have lcz := Bc.lt;have hw0z := hw.size;clear gq gc;clear Fq Fc;obtain ⟨Bq, Bc, hw, -⟩ := X2 Bq Bc hw hb;have fz := h1b;have hwz : w.heap.size ≤ wr.heap.size := hw0z;replace So := So.ee hb;replace Bm := Bm.ee hb;replace Hm := Hm.ee hb;clear hb h1b h2b hw0z;simp only [Act.put];have Fq := Bq.f;have Fc := Bc.f;have Fz := Bz.f;go_wp2_with fail;clear Fq Fc Fz;have gc := Bc.cells;have gz := Bz.cells;refine wrt 5 (by kernel_rfl) (by kernel_rfl) ?_;simp only [tK1, tK0, dP1, dP0];repeat (first | (refine zA0 (Eq.refl false) ?_; simp only [Act.put, sT2, sT1, sT0]) | (refine rWalk_step (fun K hK => ?_); go_simp; refine hK _ ?_; clear hK K))
   refine rWalk_nil ?_;intro w60 hb;clear gc gz;replace So := So.ee hb;replace Bm := Bm.ee hb;replace Hm := Hm.ee hb;obtain ⟨Bq, Bc, hw, -⟩ := X2 Bq Bc hw hb;clear hb Bz;have hlD : D.length = 1 := by have := HP.out.length_eq; simpa using this
   have hkD : ∀ x ∈ D, 0 ≤ x.K ∧ x.K ≤ 2 := fun x hx => by
    obtain ⟨i, _, rfl⟩ := List.mem_map.1 (HP.out.mem_iff.1 hx);exact zCf _ _
   have cp := zDf db v D Z (by omega) hkD hZk w60 So;clear hlD hkD;go_wp2_with fail;refine cp.mono ?_;rintro e w61 ⟨kp, v', rfl, hk5, So5, hf5, hv5⟩;have hdw : w.heap.size ≤ db := hws;have hbd : (some b) ≠ (some db) := fun e => So.box.ne_map Hm (Option.some.inj e).symm;have Bq5 := hf5.box Bq (by omega);have Bc5 := hf5.box Bc (by omega);have Bm5 := hf5.box Bm (by omega);have Hm5 := Hm.kept hf5.grown hbd;have hw5 := hw.trans (hf5.below (n := w.heap.size) (fun k hk => by rw [hk]; exact hdw) hw.size);have HP5 := Lib.hid (show (D.take kp ++ Z :: D.drop kp).Perm ((List.range (1 + 1)).map (sqW W H)) by
    rw [HZ.out];exact (zE6 kp).trans ((HP.out.cons _).trans (List.perm_append_comm (l₁ := [Z]))))
   clear cp HP HZ hk5 hf5 hv5 So Bq Bc Bm Hm hw;go_wp2
   go_roundw
   case rel => exact ⟨2, 2, v', _, by omega, by first | rfl | go_num, Lib.hid rfl, So5, HP5, Bq5, Bc5, Bm5, Hm5, hw5⟩
   case measure => simp [intOf]
  ·have hj : j = 2 := by simpa using hj.out
   subst hj;have cw := zI7 ⟨W, H⟩ ⟨0, H⟩ 2;have HZ := Lib.hid (show (List.range (2 + 1)).map (sqW W H) = (List.range 2).map (sqW W H) ++ [mkW ⟨W, H⟩ ⟨0, H⟩ 2] by rw [List.range_succ, List.map_append]; rfl);have hZk := zCf ⟨W, H⟩ ⟨0, H⟩;dsimp only at cw;generalize mkW ⟨W, H⟩ ⟨0, H⟩ 2 = Z at *
   generalize mkOk ⟨W, H⟩ ⟨0, H⟩ 2 = zk at *
   have hq1 : IntKind.i64.wrap (2 + 1) = 3 := by decide
   have hq2 : IntKind.i64.wrap 3 = 3 := by decide
   have Fq := Bq.f;have Fc := Bc.f;go_wp2_with fail;have gq := Bq.cells;have gc := Bc.cells;refine zA3 12 12 75 [.int .i64 Z.A.x, .int .i64 Z.A.y, .int .i64 Z.B.x, .int .i64 Z.B.y, .int .i64 Z.K] (zs := [.int .i64 0, .int .i64 0, .int .i64 0, .int .i64 0, .int .i64 0]) (eff := eff5 (.int .i64 Z.A.x) (.int .i64 Z.A.y) (.int .i64 Z.B.x) (.int .i64 Z.B.y) (.int .i64 Z.K)) zF0 rfl rfl rfl rfl rfl rfl rfl (by simp) (fun ρ W => by simp [execOp, go_sem]; rfl) (by kernel_rfl) (by as_aux_lemma => kernel_rfl) (C := fun w' => ∃ p : Regrown, w' = grow (redrawn wr p.d) p.os) rgB ?_ (fun ρ W b e1 e2 hB => by obtain ⟨x, y, _, _⟩ := hB.f; simp [execOp, go_sem, e1, e2, x, y, eff5]);simp only [tK1, tK0, dP1, dP0];repeat (first | (refine zA0 (Eq.refl false) ?_; simp only [Act.put, sT2, sT1, sT0]) | (refine rWalk_step (fun K hK => ?_); go_simp; first | (refine hK _ ?_; clear hK K) | (apply Exists.intro; refine ⟨fun _ => ?_, hK _ ?_⟩; (first | with_reducible exact toExt cw _); clear hK K)))
   refine rWalk_nil ⟨rfl, ?_⟩;intro w41 bkz hb h1b h2b Bz;have lqz := Bq.lt;have lcz := Bc.lt;have hw0z := hw.size;clear gq gc;clear Fq Fc;obtain ⟨Bq, Bc, hw, -⟩ := X2 Bq Bc hw hb;have fz := h1b;have hwz : w.heap.size ≤ wr.heap.size := hw0z;replace So := So.ee hb;replace Bm := Bm.ee hb;replace Hm := Hm.ee hb;clear hb h1b h2b hw0z;simp only [Act.put];have Fq := Bq.f;have Fc := Bc.f;have Fz := Bz.f;go_wp2_with fail;clear Fq Fc Fz;have gc := Bc.cells;have gz := Bz.cells;refine wrt 5 (by kernel_rfl) (by kernel_rfl) ?_;simp only [tK1, tK0, dP1, dP0];repeat (first | (refine zA0 (Eq.refl false) ?_; simp only [Act.put, sT2, sT1, sT0]) | (refine rWalk_step (fun K hK => ?_); go_simp; refine hK _ ?_; clear hK K))
   refine rWalk_nil ?_;intro w60 hb;clear gc gz;replace So := So.ee hb;replace Bm := Bm.ee hb;replace Hm := Hm.ee hb;obtain ⟨Bq, Bc, hw, -⟩ := X2 Bq Bc hw hb;clear hb Bz;have hlD : D.length = 2 := by have := HP.out.length_eq; simpa using this
   have hkD : ∀ x ∈ D, 0 ≤ x.K ∧ x.K ≤ 2 := fun x hx => by
    obtain ⟨i, _, rfl⟩ := List.mem_map.1 (HP.out.mem_iff.1 hx);exact zCf _ _
   have cp := zDf db v D Z (by omega) hkD hZk w60 So;clear hlD hkD;go_wp2_with fail;refine cp.mono ?_;rintro e w61 ⟨kp, v', rfl, hk5, So5, hf5, hv5⟩;have hdw : w.heap.size ≤ db := hws;have hbd : (some b) ≠ (some db) := fun e => So.box.ne_map Hm (Option.some.inj e).symm;have Bq5 := hf5.box Bq (by omega);have Bc5 := hf5.box Bc (by omega);have Bm5 := hf5.box Bm (by omega);have Hm5 := Hm.kept hf5.grown hbd;have hw5 := hw.trans (hf5.below (n := w.heap.size) (fun k hk => by rw [hk]; exact hdw) hw.size);have HP5 := Lib.hid (show (D.take kp ++ Z :: D.drop kp).Perm ((List.range (2 + 1)).map (sqW W H)) by
    rw [HZ.out];exact (zE6 kp).trans ((HP.out.cons _).trans (List.perm_append_comm (l₁ := [Z]))))
   clear cp HP HZ hk5 hf5 hv5 So Bq Bc Bm Hm hw;go_wp2
   go_roundw
   case rel => exact ⟨3, 3, v', _, by omega, by first | rfl | go_num, Lib.hid rfl, So5, HP5, Bq5, Bc5, Bm5, Hm5, hw5⟩
   case measure => simp [intOf]
  ·have hj : j = 3 := by simpa using hj.out
   subst hj;have cw := zI7 ⟨0, H⟩ ⟨0, 0⟩ 2;have HZ := Lib.hid (show (List.range (3 + 1)).map (sqW W H) = (List.range 3).map (sqW W H) ++ [mkW ⟨0, H⟩ ⟨0, 0⟩ 2] by rw [List.range_succ, List.map_append]; rfl);have hZk := zCf ⟨0, H⟩ ⟨0, 0⟩;dsimp only at cw;generalize mkW ⟨0, H⟩ ⟨0, 0⟩ 2 = Z at *
   generalize mkOk ⟨0, H⟩ ⟨0, 0⟩ 2 = zk at *
   have hq1 : IntKind.i64.wrap (3 + 1) = 4 := by decide
   have hq2 : IntKind.i64.wrap 4 = 4 := by decide
   have Fq := Bq.f;have Fc := Bc.f;go_wp2_with fail;have gq := Bq.cells;have gc := Bc.cells;refine zA3 12 12 75 [.int .i64 Z.A.x, .int .i64 Z.A.y, .int .i64 Z.B.x, .int .i64 Z.B.y, .int .i64 Z.K] (zs := [.int .i64 0, .int .i64 0, .int .i64 0, .int .i64 0, .int .i64 0]) (eff := eff5 (.int .i64 Z.A.x) (.int .i64 Z.A.y) (.int .i64 Z.B.x) (.int .i64 Z.B.y) (.int .i64 Z.K)) zF0 rfl rfl rfl rfl rfl rfl rfl (by simp) (fun ρ W => by simp [execOp, go_sem]; rfl) (by kernel_rfl) (by as_aux_lemma => kernel_rfl) (C := fun w' => ∃ p : Regrown, w' = grow (redrawn wr p.d) p.os) rgB ?_ (fun ρ W b e1 e2 hB => by obtain ⟨x, y, _, _⟩ := hB.f; simp [execOp, go_sem, e1, e2, x, y, eff5]);simp only [tK1, tK0, dP1, dP0];repeat (first | (refine zA0 (Eq.refl false) ?_; simp only [Act.put, sT2, sT1, sT0]) | (refine rWalk_step (fun K hK => ?_); go_simp; first | (refine hK _ ?_; clear hK K) | (apply Exists.intro; refine ⟨fun _ => ?_, hK _ ?_⟩; (first | with_reducible exact toExt cw _); clear hK K)))
   refine rWalk_nil ⟨rfl, ?_⟩;intro w41 bkz hb h1b h2b Bz;have lqz := Bq.lt;have lcz := Bc.lt;have hw0z := hw.size;clear gq gc;clear Fq Fc;obtain ⟨Bq, Bc, hw, -⟩ := X2 Bq Bc hw hb;have fz := h1b;have hwz : w.heap.size ≤ wr.heap.size := hw0z;replace So := So.ee hb;replace Bm := Bm.ee hb;replace Hm := Hm.ee hb;clear hb h1b h2b hw0z;simp only [Act.put];have Fq := Bq.f;have Fc := Bc.f;have Fz := Bz.f;go_wp2_with fail;clear Fq Fc Fz;have gc := Bc.cells;have gz := Bz.cells;refine wrt 5 (by kernel_rfl) (by kernel_rfl) ?_;simp only [tK1, tK0, dP1, dP0];repeat (first | (refine zA0 (Eq.refl false) ?_; simp only [Act.put, sT2, sT1, sT0]) | (refine rWalk_step (fun K hK => ?_); go_simp; refine hK _ ?_; clear hK K))
   refine rWalk_nil ?_;intro w60 hb;clear gc gz;replace So := So.ee hb;replace Bm := Bm.ee hb;replace Hm := Hm.ee hb;obtain ⟨Bq, Bc, hw, -⟩ := X2 Bq Bc hw hb;clear hb Bz;have hlD : D.length = 3 := by have := HP.out.length_eq; simpa using this
   have hkD : ∀ x ∈ D, 0 ≤ x.K ∧ x.K ≤ 2 := fun x hx => by
    obtain ⟨i, _, rfl⟩ := List.mem_map.1 (HP.out.mem_iff.1 hx);exact zCf _ _
   have cp := zDf db v D Z (by omega) hkD hZk w60 So;clear hlD hkD;go_wp2_with fail;refine cp.mono ?_;rintro e w61 ⟨kp, v', rfl, hk5, So5, hf5, hv5⟩;have hdw : w.heap.size ≤ db := hws;have hbd : (some b) ≠ (some db) := fun e => So.box.ne_map Hm (Option.some.inj e).symm;have Bq5 := hf5.box Bq (by omega);have Bc5 := hf5.box Bc (by omega);have Bm5 := hf5.box Bm (by omega);have Hm5 := Hm.kept hf5.grown hbd;have hw5 := hw.trans (hf5.below (n := w.heap.size) (fun k hk => by rw [hk]; exact hdw) hw.size);have HP5 := Lib.hid (show (D.take kp ++ Z :: D.drop kp).Perm ((List.range (3 + 1)).map (sqW W H)) by
    rw [HZ.out];exact (zE6 kp).trans ((HP.out.cons _).trans (List.perm_append_comm (l₁ := [Z]))))
   clear cp HP HZ hk5 hf5 hv5 So Bq Bc Bm Hm hw;go_wp2
   go_roundw
   case rel => exact ⟨4, 4, v', _, by omega, by first | rfl | go_num, Lib.hid rfl, So5, HP5, Bq5, Bc5, Bm5, Hm5, hw5⟩
   case measure => simp [intOf]
  ·have hj : j = 4 := by simpa using hj.out
   subst hj;have gc := Bc.cells;go_wp2_with fail;refine wrt 8 (by kernel_rfl) (by kernel_rfl) ?_;simp only [tK1, tK0, dP1, dP0];repeat (first | (refine zA0 (Eq.refl false) ?_; simp only [Act.put, sT2, sT1, sT0]) | (refine rWalk_step (fun K hK => ?_); go_simp; refine hK _ ?_; clear hK K))
   refine rWalk_nil ?_;intro w60 hb;clear gc;have S6 : CdtAt w60 (db + 1) mb b db v W H E D := ⟨Bc.ee hb, Bm.ee hb, Hm.ee hb, So.ee hb, by omega, by omega⟩;have hw6 := (upB hw hb);obtain ⟨a9, c9, hv9, Dr, _⟩ := S6.doc.rd;have cr := zG1 mb b db a9 c9 D.length E [X, Y] D W H hW hH (by simp) HG.out HT.out w60 S6.mesh S6.map Dr;clear hb So Bq Bc Bm Hm hw hv9 Dr;go_wp2_with fail;refine cr.mono ?_;rintro e w7 ⟨rfl, E2, L2, g5, H5, r5, f5⟩;have S7 : CdtAt w7 (db + 1) mb b db v W H E2 D := ⟨S6.box.turn S6.map g5, S6.mesh.turn S6.map g5, H5, S6.doc.turn S6.map g5, S6.cdb, S6.mdb⟩;have hw7 := hw6.grown g5 hw6.size (fun k hk => by cases hk; exact hbl);have HI := Lib.hid (show CInv W H E2 L2 D from ⟨r5.good, f5, fun x hx => by
    obtain ⟨i, _, rfl⟩ := List.mem_map.1 (HP.out.mem_iff.1 hx);exact zCf _ _⟩)
   have HL := Lib.hid (show L2.length = 2 by rw [r5.kept.len]; rfl);have HQ := Lib.hid (show ∀ q, someC L2 q ↔ q = ⟨0, 0⟩ ∨ q = ⟨W, 0⟩ ∨ q = ⟨W, H⟩ ∨ q = ⟨0, H⟩ from fun q => (r5.kept.cnr q).trans (HC.out q));have HP4 := Lib.hid (show D.Perm [sqW W H 0, sqW W H 1, sqW W H 2, sqW W H 3] from HP.out);clear cr g5 H5 r5 f5 S6 hw6;go_wp2
   go_ret
   exact ⟨db + 1, mb, b, db, v, E2, L2, D, rfl, S7, HI.out, HL.out, HQ.out, HP4.out, hw7, hbl, hws, hml, by omega⟩
theorem round_eqC {i n : Int} (hn : 0 < n) (hn2 : n ≤ 4294967296) : (wrap64 (i.tmod n + n)).tmod n = i % n := by
 have h1 : 0 ≤ i % n := Int.emod_nonneg i (by omega);have h2 : i % n < n := Int.emod_lt_of_pos i hn;have h3 : i.tmod n = i % n ∨ i.tmod n = i % n - n := by
  have h := @Int.tmod_eq_emod i n;split at h
  ·left; omega
  ·right; rw [h]; omega
 have h4 : wrap64 (i.tmod n + n) = i.tmod n + n := by rw [w64]; omega
 rw [h4, Int.tmod_eq_emod_of_nonneg (by omega)];rcases h3 with h | h <;> rw [h]
 ·rw [Int.add_emod_right]; exact Int.emod_eq_of_lt h1 h2
 ·rw [show i % n - n + n = i % n by omega]; exact Int.emod_eq_of_lt h1 h2
theorem zJe {i n : Int} (hn : 0 < n) (hn2 : n ≤ 4294967296) (w : World) :
    Calls Tryz.prog 15 #[.int .i64 i, .int .i64 n] w fun e w' => e = .returned (.int .i64 (i % n)) ∧ Below w.heap.size w w' := by
 rw [← round_eqC hn hn2];have h0 : (n == 0) = false := by simp; omega
 have h1 : n ≠ 0 := by omega
 go_enter Tryz.func15, Tryz.ntmps15
 go_wp2;all_goals go_ret
 all_goals exact ⟨rfl, by go_grown⟩
def spt (s n : Int) : Pt := ⟨n % ((s + 1) * (s + 1)) % (s + 1), n % ((s + 1) * (s + 1)) / (s + 1)⟩
theorem zJb {s : Int} (hs : 0 < s) (n : Int) : inBox s s (spt s n) := by
 have hp : 0 < (s + 1) * (s + 1) := Int.mul_pos (by omega) (by omega);have h1 := Int.emod_nonneg n (b := (s + 1) * (s + 1)) (by omega);have h2 := Int.emod_lt_of_pos n hp;have h3 := Int.emod_nonneg (n % ((s + 1) * (s + 1))) (b := s + 1) (by omega);have h4 := Int.emod_lt_of_pos (n % ((s + 1) * (s + 1))) (b := s + 1) (by omega);have h5 : 0 ≤ n % ((s + 1) * (s + 1)) / (s + 1) := Int.ediv_nonneg h1 (by omega);have h6 : n % ((s + 1) * (s + 1)) / (s + 1) < s + 1 := Int.ediv_lt_of_lt_mul (by omega) h2;unfold inBox spt;simp only;omega
theorem spot_any (s n : Int) (hs : 0 < s) (hs2 : s ≤ 60) (w : World) :
    Calls Tryz.prog 11 #[.int .i64 s, .int .i64 n] w fun e w' => e = .returned (.agg #[.int .i64 (spt s n).x, .int .i64 (spt s n).y]) ∧ Below w.heap.size w w' := by
 have hp : 0 < (s + 1) * (s + 1) := Int.mul_pos (by omega) (by omega);have hp2 : (s + 1) * (s + 1) ≤ 4000 := by
  have := Int.mul_le_mul (a := s + 1) (b := s + 1) (c := 61) (d := 61) (by omega) (by omega) (by omega) (by omega);omega
 have cr := zJe (i := n) (n := (s + 1) * (s + 1)) hp (by omega);have hk1 := Int.emod_nonneg n (b := (s + 1) * (s + 1)) (by omega);have hk2 := Int.emod_lt_of_pos n hp;have hb := zJb hs n;have HE := Lib.hid (show spt s n = ⟨n % ((s + 1) * (s + 1)) % (s + 1), n % ((s + 1) * (s + 1)) / (s + 1)⟩ from rfl);have hw1 : wrap64 ((s + 1) * (s + 1)) = (s + 1) * (s + 1) := by rw [w64]; omega
 have hk3 : n % ((s + 1) * (s + 1)) < 4000 := by omega
 have HB := Lib.hid hb;generalize n % ((s + 1) * (s + 1)) = k at *
 have ht1 : Int.tmod k (s + 1) = k % (s + 1) := Int.tmod_eq_emod_of_nonneg hk1;have ht2 : Int.tdiv k (s + 1) = k / (s + 1) := Int.tdiv_eq_ediv_of_nonneg hk1
 go_enter Tryz.func11, Tryz.ntmps11
 have h5 : 0 ≤ k / (s + 1) := Int.ediv_nonneg hk1 (by omega);have h6 : k / (s + 1) ≤ k := Int.ediv_le_self _ hk1;have h7 := Int.emod_nonneg k (b := s + 1) (by omega);have h8 := Int.emod_lt_of_pos k (b := s + 1) (by omega);have n0 : s + 1 ≠ 0 := by omega
 have n1 : (s + 1 == 0) = false := by simp; omega
 have n2 : (s + 1 = 0) = False := by simp; omega
 have a1 : IntKind.i64.wrap (s + 1) = s + 1 := by rw [IntKind.wrap_i64]; omega
 have a2 : IntKind.i64.wrap (k / (s + 1)) = k / (s + 1) := by rw [IntKind.wrap_i64]; omega
 have a3 : IntKind.i64.wrap (k % (s + 1)) = k % (s + 1) := by rw [IntKind.wrap_i64]; omega
 have HK := Lib.hid (show True from trivial);clear hb hp hp2 hk2 hk3;go_wp2_with fail;refine zA1 fun W1 hW => ?_;have Br : Box W1 w.heap.size [.int .i64 0, .int .i64 0] 30 := by rw [hW]; exact Box.new rfl
 have hw : Below w.heap.size w W1 := by rw [hW]; go_grown
 clear hW;refine (cr _).mono ?_;rintro e w2 ⟨rfl, hb⟩;have Br2 := Br.ee hb;have hw2 := (upB hw hb);clear hb Br hw cr;have Fr := Br2.f;go_wp2_with fail;clear Fr;have gr := Br2.cells;refine wrt 9 (by kernel_rfl) (by kernel_rfl) ?_;simp only [tK1, tK0, dP1, dP0];repeat (first | (refine zA0 (Eq.refl false) ?_; simp only [Act.put, sT2, sT1, sT0]) | (refine rWalk_step (fun K hK => ?_); go_simp; refine hK _ ?_; clear hK K))
 refine rWalk_nil ?_;intro w3 hb;clear gr;have Br3 := Br2.ee hb;have hw3 := (upB hw2 hb);clear hb Br2 hw2;have Fr := Br3.f;go_wp2_with fail;refine bodyPost_ret (v := .agg #[.int .i64 (k % (s + 1)), .int .i64 (k / (s + 1))]) (by simp [results, Tryz.results11, go_sem, Fr]) rfl ⟨by rw [HE.out], by have hl := hw3.size; go_grown⟩
end Go.Proofs.YtjkfakaehjmnbaaGreat
