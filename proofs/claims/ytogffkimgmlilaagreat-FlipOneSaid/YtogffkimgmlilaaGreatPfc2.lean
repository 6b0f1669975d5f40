/- Put together: FoA. -/
import Derived.Test.YtogffkimgmlilaaGreatPfb50
import Derived.Test.YtogffkimgmlilaaGreatPfb47
import Derived.Test.YtogffkimgmlilaaGreatPfc0
import Derived.WalkKit
import Derived.WalkSpells
import Derived.WalkLawsBesides
import Derived.Laws.Externs
import Derived.Deep.QuietTactic
import Derived.BigQuiet
import Derived.Lib.Hide
import Derived.Handy
import Derived.OwnWalk
import Derived.Deep.Cut
import Derived.LoopN
import Derived.RegionTactic
set_option linter.all false
namespace Go.Proofs.YtogffkimgmlilaaGreat
open Go.RowKit Go.Sort
attribute [local go_sem] rOper rAt rUpon cell_set sg_i64 sg_u64 alloc_cell alloc_frozen
attribute [local go_sem 10000] pt_eql pt_neq tri_eql
attribute [local irreducible] rWalk
set_option maxRecDepth 100000 in
theorem fo_no (s : Int) (a0 a2 a1 a5 : Option Addr) (n q m m5 c0 c2 c1 c5 : Nat) (hf : s < 1 ∨ 40 < s ∨ 25 < n ∨ 12 < q ∨ 40 < m ∨ 40 < m5) (w : World) :
    Calls Tryz.prog 4 #[.int .i64 s, .slice a0 n c0, .slice a2 q c2, .slice a1 m c1, .slice a5 m5 c5] w fun e w' => e = .returned (.bool true) ∧ Below w.heap.size w w' := by
 have cf := fun W => few8_any s a0 a2 n q c0 c2 W
 have em : decide ((40 : Int) < (m : Int)) = decide (40 < m) := by simp; omega
 have em5 : decide ((40 : Int) < (m5 : Int)) = decide (40 < m5) := by simp; omega
 have hQ := Lib.hid (show (decide (1 ≤ s) && (decide (s ≤ 40) && (decide (n ≤ 25) && decide (q ≤ 12)))) = false ∨ 40 < m ∨ 40 < m5 by
  rcases hf with h | h | h | h | h
  ·left; simp; omega
  ·left; simp; omega
  ·left; simp; omega
  ·left; simp; omega
  ·right; exact h)
 clear hf
 generalize (decide (1 ≤ s) && (decide (s ≤ 40) && (decide (n ≤ 25) && decide (q ≤ 12)))) = f at *
 cases f with
 | false =>
  clear em em5
  go_enter Tryz.func4, Tryz.ntmps4
  go_wp2_with fail
  refine (cf _).mono ?_
  rintro e w1 ⟨rfl, hb⟩
  go_wp2_with fail
  refine (awake8_any _).mono ?_
  rintro e w2 ⟨rfl, hb2⟩
  have hw := hb.trans (hb2.mono hb.size)
  go_wp2
  go_ret
  exact ⟨rfl, hw⟩
 | true =>
  by_cases h40 : 40 < m
  case pos =>
   have hm : decide ((40 : Int) < (m : Int)) = true := by rw [em]; exact decide_eq_true h40
   clear em em5 h40
   go_enter Tryz.func4, Tryz.ntmps4
   go_wp2_with fail
   refine (cf _).mono ?_
   rintro e w1 ⟨rfl, hb⟩
   go_wp2_with fail
   refine (awake8_any _).mono ?_
   rintro e w2 ⟨rfl, hb2⟩
   have hw := hb.trans (hb2.mono hb.size)
   go_wp2
   go_ret
   exact ⟨rfl, hw⟩
  case neg =>
   have hm : decide ((40 : Int) < (m : Int)) = false := by rw [em]; exact decide_eq_false h40
   have hm5 : decide ((40 : Int) < (m5 : Int)) = true := by
    rw [em5]
    rcases hQ.out with h | h | h
    ·cases h
    ·exact absurd h h40
    ·exact decide_eq_true h
   clear em em5 h40
   go_enter Tryz.func4, Tryz.ntmps4
   go_wp2_with fail
   refine (cf _).mono ?_
   rintro e w1 ⟨rfl, hb⟩
   go_wp2_with fail
   refine (awake8_any _).mono ?_
   rintro e w2 ⟨rfl, hb2⟩
   have hw := hb.trans (hb2.mono hb.size)
   go_wp2
   go_ret
   exact ⟨rfl, hw⟩
theorem left_gen {mb b : Nat} {E : Es} {p q : Pt} {X : Tri3} {l : Bool} (h : lftE E p q = (X, l)) (hk : okW (p, q)) {W : World} (B : Box W mb [.map (some b)] 81) (H : HoldsMap eW eT okW W b E) :
    ∀ d os, Calls Tryz.prog 22 #[.pointer (some ⟨mb, 0, none⟩), .agg #[.int .i64 p.x, .int .i64 p.y], .agg #[.int .i64 q.x, .int .i64 q.y]] (grow (redrawn W d) os) fun e w' => e = .returned (.tuple #[.agg #[.int .i64 X.A.x, .int .i64 X.A.y, .int .i64 X.B.x, .int .i64 X.B.y, .int .i64 X.C.x, .int .i64 X.C.y], .bool l]) ∧ Below (grow (redrawn W d) os).heap.size (grow (redrawn W d) os) w' := fun d os => by
 have hc := left_any mb b E p q hk _ (B.ext (below_regrown W d os) rfl) (H.ext (below_regrown W d os) rfl)
 rw [h] at hc
 exact hc
/-- Each wall is an edge of a mesh. -/
theorem wal_left {E : Es} {L : List Tri3} {D : List Wl} (g : Good E L) (h : WInv L D) : ∀ x ∈ D, ∃ X l Y r, lftE E x.A x.B = (X, l) ∧ lftE E x.B x.A = (Y, r) ∧ (l = true ∨ r = true) ∧ okW (x.A, x.B) ∧ okW (x.B, x.A) := by
 intro x hx
 have hg := h.good x hx
 have ha := zBj hg.va
 have hb := zBj hg.vb
 refine ⟨(lftE E x.A x.B).1, (lftE E x.A x.B).2, (lftE E x.B x.A).1, (lftE E x.B x.A).2, rfl, rfl, ?_, ⟨ha, hb⟩, ⟨hb, ha⟩⟩
 rcases h.edge x hx with k | k
 ·left
  cases hq : getE E (x.A, x.B) with
  | none => exact absurd k (g.get_none.1 hq)
  | some t => rw [lftE_some hq]
 ·right
  cases hq : getE E (x.B, x.A) with
  | none => exact absurd k (g.get_none.1 hq)
  | some t => rw [lftE_some hq]
set_option maxRecDepth 100000 in
set_option maxHeartbeats 8000000 in
theorem fo_yes (s : Int) (hs : 0 < s) (hs2 : s ≤ 40) (a0 : Option Addr) (n c0 : Nat) (hn : n ≤ 25) (P : List Int) (hP : Hid (P.length = n)) (a2 : Option Addr) (q c2 : Nat) (hq : q ≤ 12) (Q : List Pt) (hQ : Hid (Q.length = q)) (a1 : Option Addr) (m c1 : Nat) (hm : m ≤ 40) (X : List Int) (hX : Hid (X.length = m)) (a5 : Option Addr) (m5 c5 : Nat) (hm5 : m5 ≤ 40) (X5 : List Int) (hX5 : Hid (X5.length = m5)) (w : World) (h0 : RowAt cI 1 w a0 P) (hq0 : RowAt cP 2 w a2 Q) (h1 : RowAt cI 1 w a1 X) (h5 : RowAt cI 1 w a5 X5) :
    Calls Tryz.prog 4 #[.int .i64 s, .slice a0 n c0, .slice a2 q c2, .slice a1 m c1, .slice a5 m5 c5] w fun e w' => e = .returned (.bool true) ∧ Below w.heap.size w w' := by
 have cf := fun W => few8_any s a0 a2 n q c0 c2 W
 rw [show (decide (1 ≤ s) && (decide (s ≤ 40) && (decide (n ≤ 25) && decide (q ≤ 12)))) = true by simp; omega] at cf
 have em : ((40 : Int) < (m : Int)) = False := by simp; omega
 have em5 : ((40 : Int) < (m5 : Int)) = False := by simp; omega
 have HS := Lib.hid (show 0 < s ∧ s ≤ 40 from ⟨hs, hs2⟩)
 have HN := Lib.hid hn
 have HMM := Lib.hid hm
 have HQQ := Lib.hid hq
 have HM5 := Lib.hid hm5
 clear hs hs2 hn hm hq hm5
 go_enter Tryz.func4, Tryz.ntmps4
 go_wp2_with fail
 refine (cf _).mono ?_
 rintro e w1 ⟨rfl, hw⟩
 clear cf
 go_wp2_with fail
 refine (built8_any s HS.out.1 (by have := HS.out.2; omega) a0 a2 n q c0 c2 P hP (by have := HN.out; omega) Q hQ (by have := HQQ.out; omega) w1 (h0.ext hw rfl) (hq0.ext hw rfl)).mono ?_
 rintro e w2 hpost
 unfold Built8Post at hpost
 obtain ⟨m2, b2, sb, aS, cS, cb, mb, b, db, v, E2, E, L, D, rfl, _, _, _, SR, SC, hI, _, hL, hD, hK, hw2, _, _, hbb, _⟩ := hpost
 have HI := Lib.hid hI
 have HL := Lib.hid (show L.length ≤ 52 by have := HN.out; have := hP.out; omega)
 have HBB := Lib.hid (show w.heap.size ≤ b from Nat.le_trans hw.size hbb.1)
 have hw3 := hw.trans (hw2.mono hw.size)
 clear hI hL hK hbb hw2 em em5
 have co := rodd_any cb mb b db v s s HS.out.1 HS.out.1 (by have := HS.out.2; omega) (by have := HS.out.2; omega) E L D HI.out.good HI.out.fix.tiles (by have := HL.out; omega) a1 m c1 X hX HMM.out w2 SC (h1.ext hw3 rfl)
 go_wp2_with fail
 refine co.mono ?_
 rintro e w3 ⟨E3, L3, a3, c3, rfl, hg3, H3, R3, hr3⟩
 have SR3 := SR.turn SC.map hg3
 have hw4 := hw3.grown hg3 hw3.size (fun q hq => by cases hq; exact HBB.out)
 have HR3 := Lib.hid R3
 have SC3 : CdtAt w3 cb mb b db v s s E3 D := ⟨SC.box.turn SC.map hg3, SC.mesh.turn SC.map hg3, H3, SC.doc.turn SC.map hg3, SC.cdb, SC.mdb⟩
 obtain ⟨p3, ok3, put3, G3⟩ := tris_new R3.good
 have HIS := Lib.hid (show srt cmpT (srt cmpT (heads (fun _ => true) E3)) = srt cmpT (heads (fun _ => true) E3) from wholeT.srt_of_perm (srt_perm _))
 generalize srt cmpT (heads (fun _ => true) E3) = I at *
 have HP3 := Lib.hid p3
 have HG3 := Lib.hid G3
 have hlen : I.length ≤ 52 := by rw [p3.length_eq, R3.kept.len]; exact HL.out
 obtain ⟨mi, hmi⟩ : ∃ z, I.length = z := ⟨_, rfl⟩
 rw [hmi] at put3 hlen ⊢
 have cn := fun W H => mnew_1 a3 c3 mi I (Lib.hid hmi) (by omega) ok3 put3 W H
 have HMI := Lib.hid (show I.length ≤ 94 by omega)
 have HMi := Lib.hid hmi
 clear co SC SR hg3 R3 p3 G3 H3 hmi ok3 put3 hlen
 generalize (putRun [] I).2 = E4 at *
 go_wp2_with fail
 refine (cn _ hr3).mono ?_
 rintro e w4 ⟨m4, b4, rfl, B4, H4, hb4, _, hb⟩
 have SR4 := SR3.ext hb rfl
 have SC4 := SC3.ext hb rfl
 have hw5 := hw4.trans (hb.mono hw4.size)
 have HB4 := Lib.hid (show w.heap.size ≤ b4 from Nat.le_trans hw4.size hb4)
 have HN1 := Lib.hid (show b4 ≠ b from by have := SC3.map.lt; omega)
 clear cn hr3 SR3 SC3 hb hb4 hw4 hw3
 have HSS := Lib.hid (show s < 16777216 by have := HS.out.2; omega)
 have HWI := Lib.hid (show WInv I D from (HI.out.wal.kept HR3.out.kept).kept (Kept.perm HP3.out.symm))
 have HTI := Lib.hid (HR3.out.tiles.perm HP3.out.symm)
 have HCI := Lib.hid (show ∀ p, someC I p ↔ someC L p from fun p => ((Kept.perm (K := fun _ _ => True) HP3.out.symm).cnr p).trans (HR3.out.kept.cnr p))
 have co := rodd_any cb mb b db v s s HS.out.1 HS.out.1 HSS.out HSS.out E3 L3 D HR3.out.good HR3.out.tiles (by rw [HR3.out.kept.len]; have := HL.out; omega) a5 m5 c5 X5 hX5 HM5.out w4 SC4 (h5.ext hw5 rfl)
 go_wp2_with fail
 refine co.mono ?_
 rintro e w6 ⟨E6, L6, a6, c6, rfl, hg6, H6, R6, hr6⟩
 have B6 := B4.turn SC4.map hg6
 have H46 := H4.kept hg6 (fun e => HN1.out (Option.some.inj e))
 have SR6 := SR4.turn SC4.map hg6
 have hw6 := hw5.grown hg6 hw5.size (fun q hq => by cases hq; exact HBB.out)
 have HR6 := Lib.hid R6
 have SC6 : CdtAt w6 cb mb b db v s s E6 D := ⟨SC4.box.turn SC4.map hg6, SC4.mesh.turn SC4.map hg6, H6, SC4.doc.turn SC4.map hg6, SC4.cdb, SC4.mdb⟩
 obtain ⟨p6, ok6, put6, G6⟩ := tris_new R6.good
 generalize srt cmpT (heads (fun _ => true) E6) = J at *
 have HP6 := Lib.hid p6
 have HG6 := Lib.hid G6
 have hlen : J.length ≤ 52 := by rw [p6.length_eq, R6.kept.len, HR3.out.kept.len]; exact HL.out
 obtain ⟨mj, hmj⟩ : ∃ z, J.length = z := ⟨_, rfl⟩
 rw [hmj] at put6 hlen ⊢
 have cn := fun W H => mnew_1 a6 c6 mj J (Lib.hid hmj) (by omega) ok6 put6 W H
 have HMJ := Lib.hid (show J.length ≤ 94 by omega)
 clear co B4 H4 SR4 SC4 hg6 H6 R6 hw5 p6 G6 ok6 put6 hlen hmj
 generalize (putRun [] J).2 = E7 at *
 go_wp2_with fail
 refine (cn _ hr6).mono ?_
 rintro e w7 ⟨m7, b7, rfl, B7, H7, hb7, _, hb⟩
 have HN2 := Lib.hid (show b7 ≠ b ∧ b7 ≠ b4 from by have h1 := SC6.map.lt; have h2 := H46.lt; omega)
 have HB7 := Lib.hid (show w.heap.size ≤ b7 from Nat.le_trans hw6.size hb7)
 replace B6 := B6.ext hb rfl
 replace H46 := H46.ext hb rfl
 replace SR6 := SR6.ext hb rfl
 replace SC6 := SC6.ext hb rfl
 replace hw6 := hw6.trans (hb.mono hw6.size)
 clear cn hr6 hb hb7
 have HWJ := Lib.hid (show WInv J D from ((HI.out.wal.kept HR3.out.kept).kept HR6.out.kept).kept (Kept.perm HP6.out.symm))
 have HTJ := Lib.hid (HR6.out.tiles.perm HP6.out.symm)
 have HC6 := Lib.hid (show ∀ p, someC L6 p ↔ someC L p from fun p => (HR6.out.kept.cnr p).trans (HR3.out.kept.cnr p))
 have HCJ := Lib.hid (show ∀ p, someC J p ↔ someC L p from fun p => ((Kept.perm (K := fun _ _ => True) HP6.out.symm).cnr p).trans (HC6.out p))
 have HL6 := Lib.hid (show L6.length ≤ 52 by rw [HR6.out.kept.len, HR3.out.kept.len]; exact HL.out)
 have cr := fRepair_any m4 b4 E4 I sb aS cS D.length D s s HSS.out HSS.out HMI.out HG3.out HTI.out w7 B6 H46 SR6
 go_wp2_with fail
 refine cr.mono ?_
 rintro e w8 ⟨rfl, E8, L8, hg8, H8, R8, F8⟩
 replace B7 := B7.turn H46 hg8
 replace H7 := H7.kept hg8 (fun e => HN2.out.2 (Option.some.inj e))
 have SC8 : CdtAt w8 cb mb b db v s s E6 D := ⟨SC6.box.turn H46 hg8, SC6.mesh.turn H46 hg8, SC6.map.kept hg8 (fun e => HN1.out (Option.some.inj e).symm), SC6.doc.turn H46 hg8, SC6.cdb, SC6.mdb⟩
 replace SR6 := SR6.turn H46 hg8
 replace hw6 := hw6.grown hg8 hw6.size (fun q hq => by cases hq; exact HB4.out)
 replace B6 := B6.turn H46 hg8
 have HR8 := Lib.hid R8
 have HF8 := Lib.hid F8
 clear cr H46 SC6 hg8 R8 F8
 have cr := fRepair_any m7 b7 E7 J sb aS cS D.length D s s HSS.out HSS.out HMJ.out HG6.out HTJ.out w8 B7 H7 SR6
 go_wp2_with fail
 refine cr.mono ?_
 rintro e w9 ⟨rfl, E9, L9, hg9, H9, R9, F9⟩
 replace B6 := B6.turn H7 hg9
 replace H8 := H8.kept hg9 (fun e => HN2.out.2 (Option.some.inj e).symm)
 have SC9 : CdtAt w9 cb mb b db v s s E6 D := ⟨SC8.box.turn H7 hg9, SC8.mesh.turn H7 hg9, SC8.map.kept hg9 (fun e => HN2.out.1 (Option.some.inj e).symm), SC8.doc.turn H7 hg9, SC8.cdb, SC8.mdb⟩
 replace SR6 := SR6.turn H7 hg9
 replace hw6 := hw6.grown hg9 hw6.size (fun q hq => by cases hq; exact HB7.out)
 replace B7 := B7.turn H7 hg9
 have HW8 := Lib.hid (HWI.out.kept HR8.out.kept)
 have hokG : ∀ {E1 : Es} {L1 : List Tri3}, Good E1 L1 → ∀ e ∈ E1, okT e.2 := fun {E1 L1} g e he => by
  obtain ⟨ww, T⟩ := e
  exact zB7 (g.val T (wys_mem.1 (g.perm.mem_iff.1 he)).1)
 have hE8 : E8.length ≤ 300 := by rw [HR8.out.good.len, HR8.out.kept.len]; have := HMI.out; omega
 have hE9 : E9.length ≤ 300 := by rw [R9.good.len, R9.kept.len]; have := HMJ.out; omega
 have cG := fGood_any m4 b4 E8 sb aS cS D.length D (by omega) (hokG HR8.out.good) w9 B6 H8 SR6
 rw [(FB_nil HSS.out HSS.out HR8.out.good HR8.out.tiles HWI.out.good).2 HF8.out, List.length_nil, decide_eq_true (rfl : (0 : Nat) = 0)] at cG
 have cB := fun W B H S => fBad_any m7 b7 E9 sb aS cS D.length D (by omega) (hokG R9.good) W B H S
 rw [(FB_nil HSS.out HSS.out R9.good R9.tiles HWI.out.good).2 F9] at cB
 have ct8 := fun W B H => mtris_any m4 b4 E8 (by omega) W B H
 have ct9 := fun W B H => mtris_any m7 b7 E9 (by omega) W B H
 rw [fix_same HS.out.1 HSS.out R9.good HR8.out.good F9 HF8.out (HWJ.out.kept R9.kept).edge HW8.out.edge (fun p => (R9.kept.cnr p).trans ((HCJ.out p).trans ((HR8.out.kept.cnr p).trans (HCI.out p)).symm))] at ct9
 have cp := fun W B H => mpoints_any m4 b4 E8 (by omega) W B H
 have HKL := Lib.hid (show (srt cmpT (heads (fun _ => true) E8)).length ≤ 1000000 by rw [(tris_new HR8.out.good).1.length_eq, HR8.out.kept.len]; have := HMI.out; omega)
 have HFR := Lib.hid (show (froms E8).length ≤ 1000000 by unfold froms; rw [List.length_map]; omega)
 have HX := Lib.hid (wal_left HR8.out.good HW8.out)
 have hDl : D.length ≤ 100000 := hD
 clear cr hE8 hE9 hokG hg9 R9 F9 H7 SC8
 generalize srt cmpT (heads (fun _ => true) E8) = T8 at *
 go_wp2_with fail
 refine cG.mono ?_
 rintro e w10 ⟨rfl, hb⟩
 replace B6 := B6.ext hb rfl
 replace H8 := H8.ext hb rfl
 replace B7 := B7.ext hb rfl
 replace H9 := H9.ext hb rfl
 replace SR6 := SR6.ext hb rfl
 replace SC9 := SC9.ext hb rfl
 replace hw6 := hw6.trans (hb.mono hw6.size)
 clear cG hb
 go_wp2_with fail
 refine (cB _ B7 H9 SR6).mono ?_
 rintro e w11 ⟨vB, rfl, hrB, hb⟩
 obtain ⟨aB, cB2, rfl, _, _⟩ := hrB.row
 rw [List.length_nil]
 replace B6 := B6.ext hb rfl
 replace H8 := H8.ext hb rfl
 replace B7 := B7.ext hb rfl
 replace H9 := H9.ext hb rfl
 replace SR6 := SR6.ext hb rfl
 replace SC9 := SC9.ext hb rfl
 replace hw6 := hw6.trans (hb.mono hw6.size)
 clear cB hb hrB
 go_wp2_with fail
 refine (ct8 _ B6 H8).mono ?_
 rintro e w12 ⟨a12, c12, rfl, hr12, hb⟩
 replace B6 := B6.ext hb rfl
 replace H8 := H8.ext hb rfl
 replace B7 := B7.ext hb rfl
 replace H9 := H9.ext hb rfl
 replace SR6 := SR6.ext hb rfl
 replace SC9 := SC9.ext hb rfl
 replace hw6 := hw6.trans (hb.mono hw6.size)
 clear ct8 hb
 go_wp2_with fail
 refine (ct9 _ B7 H9).mono ?_
 rintro e w13 ⟨a13, c13, rfl, hr13, hb⟩
 replace hr12 := hr12.ext hb rfl
 replace B6 := B6.ext hb rfl
 replace H8 := H8.ext hb rfl
 replace SR6 := SR6.ext hb rfl
 replace SC9 := SC9.ext hb rfl
 replace hw6 := hw6.trans (hb.mono hw6.size)
 clear ct9 hb B7 H9
 have cal := alike_T a12 a13 c12 c13 T8 T8 w13 hr12 hr13 HKL.out
 rw [decide_eq_true (rfl : T8 = T8)] at cal
 go_wp2_with fail
 refine cal.mono ?_
 rintro e w14 ⟨rfl, hb⟩
 replace B6 := B6.ext hb rfl
 replace H8 := H8.ext hb rfl
 replace SR6 := SR6.ext hb rfl
 replace SC9 := SC9.ext hb rfl
 replace hw6 := hw6.trans (hb.mono hw6.size)
 clear cal hb hr12 hr13
 go_wp2_with fail
 refine (all_any sb aS cS D.length D w14 SR6).mono ?_
 rintro e w15 ⟨v15, rfl, hrD, hb⟩
 obtain ⟨aD, cD, rfl, hrow, _⟩ := hrD.row
 obtain ⟨mD, hmD⟩ : ∃ z, D.length = z := ⟨_, rfl⟩
 rw [hmD] at hDl SR6 ⊢
 have HMD := Lib.hid hmD
 have HMD1 := Lib.hid hDl
 replace B6 := B6.ext hb rfl
 replace H8 := H8.ext hb rfl
 replace SC9 := SC9.ext hb rfl
 replace hw6 := hw6.trans (hb.mono hw6.size)
 clear hb hrD hmD hDl SR6
 go_wp2_with fail
 go_loopw [19] (fun vi wr => ∃ i : Nat, vi = .int .i64 i ∧ i ≤ mD ∧ Below w15.heap.size w15 wr) (fun vi _ => mD - (intOf vi).toNat)
 case atStart => exact ⟨0, rfl, Nat.zero_le _, Below.refl _ _⟩
 case round =>
  obtain ⟨i, rfl, hi, hwr⟩ := hrel
  have BR := B6.ext hwr rfl
  have HR := H8.ext hwr rfl
  by_cases hlt : i < mD
  case pos =>
   have HLT := Lib.hid hlt
   have hq0 : (i : Int) < (mD : Int) := by omega
   have hiF : i < D.length := by rw [HMD.out]; exact hlt
   obtain ⟨ad, A, ea, eA, hA⟩ := (hrow.ext hwr rfl).five (j := i) hiF
   obtain ⟨X1, l, X2, r, hX1, hX2, hlr, ok1, ok2⟩ := HX.out _ (List.getElem_mem hiF)
   replace hlr := Lib.hid hlr
   generalize D[i] = x at *
   have cl := left_gen hX1 ok1 BR HR
   obtain ⟨s0, s1, s2, s3, s4⟩ := hA.cells
   subst ea
   go_wp2_with fail
   refine rlx 15 20 132 (fun w16 bk6 hb h1b h2b B16 => ?_)
   have hw16 := hwr.trans (hb.mono hwr.size)
   have BR6 := BR.ext hb rfl
   have HR6 := HR.ext hb rfl
   have hA6 := hA.ext hb rfl
   clear cl s0 s1 s2 s3 s4 hb h1b h2b BR HR hA hwr B16
   simp only [Act.put]
   go_wp2_with fail
   have cl := left_gen hX2 ok2 BR6 HR6
   obtain ⟨s0, s1, s2, s3, s4⟩ := hA6.cells
   refine rlx 15 22 147 (fun w18 bk8 hb h1b h2b B18 => ?_)
   have hw18 := hw16.trans (hb.mono hw16.size)
   clear cl s0 s1 s2 s3 s4 hb h1b h2b BR6 HR6 hA6 hw16 B18
   simp only [Act.put]
   cases l
   case' true => go_wp2
   case' false =>
    obtain rfl : r = true := by rcases hlr.out with h | h; cases h; exact h
    go_wp2
   all_goals
    go_roundw
    case rel => exact ⟨i + 1, by go_num, HLT.out, hw18⟩
    case measure => have h9 := HLT.out; simp [intOf]; omega
  case neg =>
   have hin : ¬ (i : Int) < (mD : Int) := by omega
   clear hlt hi
   replace hw6 := hw6.trans (hwr.mono hw6.size)
   have SCR := SC9.ext hwr rfl
   clear SC9 hwr hrow HX B6 H8
   go_wp2_with fail
   refine (cp _ BR HR).mono ?_
   rintro e w16 ⟨M, a16, c16, rfl, hr16, hris, hmem, hb⟩
   replace SCR := SCR.ext hb rfl
   replace hw6 := hw6.trans (hb.mono hw6.size)
   have HML := Lib.hid (show M.length ≤ 1000000 from Nat.le_trans (nodup_sub (rising_nodup hris) (fun p hp => (hmem p).1 hp)) HFR.out)
   have HRM := Lib.hid hris
   have HMM := Lib.hid hmem
   clear hb cp hris hmem BR HR
   go_wp2_with fail
   refine (cpoints_any cb mb b db v s s E6 D (by rw [HR6.out.good.len]; have := HL6.out; omega) w16 SCR).mono ?_
   rintro e w17 ⟨M2, a17, c17, rfl, hr17, hris, hmem, hb⟩
   replace hr16 := hr16.ext hb rfl
   replace hw6 := hw6.trans (hb.mono hw6.size)
   have cal := alike_P a16 a17 c16 c17 M M2 w17 hr16 hr17 HML.out
   rw [decide_eq_true (zFc wholeP HRM.out hris fun p => by
    rw [HMM.out p, hmem p, HR8.out.good.froms (List.Perm.refl _) p, cnrs_mem, cnrs_mem, HR8.out.kept.cnr p, HCI.out p, ← HC6.out p]
    exact ((Kept.perm (K := fun _ _ => True) (tris_new HR6.out.good).1).cnr p).symm.symm)] at cal
   clear hb hris hmem hr16 hr17 SCR
   go_wp2_with fail
   refine cal.mono ?_
   rintro e w18 ⟨rfl, hb⟩
   replace hw6 := hw6.trans (hb.mono hw6.size)
   clear hb cal
   go_wp2_with fail
   refine (awake8_any _).mono ?_
   rintro e w19 ⟨rfl, hb⟩
   replace hw6 := hw6.trans (hb.mono hw6.size)
   go_wp2
   go_ret
   exact ⟨rfl, hw6⟩
end Go.Proofs.YtogffkimgmlilaaGreat
