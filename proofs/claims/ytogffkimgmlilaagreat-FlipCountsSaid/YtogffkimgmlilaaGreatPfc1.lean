/- Put together: FcA. -/
import Derived.Test.YtogffkimgmlilaaGreatPfb50
import Derived.Test.YtogffkimgmlilaaGreatPfb47
import Derived.Test.YtogffkimgmlilaaGreatPfc0
import Derived.WalkKit
import Derived.WalkSpells
import Derived.WalkLawsBesides
import Derived.Laws.Externs
import Derived.Deep.QuietTactic
import Derived.BigQuiet
import Derived.Lib.Hide
import Derived.Handy
import Derived.OwnWalk
import Derived.Deep.Cut
import Derived.LoopN
import Derived.RegionTactic
set_option linter.all false
namespace Go.Proofs.YtogffkimgmlilaaGreat
open Go.RowKit Go.Sort
attribute [local go_sem] rOper rAt rUpon cell_set sg_i64 sg_u64 alloc_cell alloc_frozen
attribute [local go_sem 10000] pt_eql pt_neq tri_eql
attribute [local irreducible] rWalk
set_option maxRecDepth 100000 in
theorem fc_no (s : Int) (a0 a2 a1 : Option Addr) (n q m c0 c2 c1 : Nat) (hf : s < 1 ∨ 40 < s ∨ 25 < n ∨ 12 < q ∨ 40 < m) (w : World) :
    Calls Tryz.prog 6 #[.int .i64 s, .slice a0 n c0, .slice a2 q c2, .slice a1 m c1] w fun e w' => e = .returned (.bool true) ∧ Below w.heap.size w w' := by
 have cf := fun W => few8_any s a0 a2 n q c0 c2 W
 have em : decide ((40 : Int) < (m : Int)) = decide (40 < m) := by simp; omega
 have hQ := Lib.hid (show (decide (1 ≤ s) && (decide (s ≤ 40) && (decide (n ≤ 25) && decide (q ≤ 12)))) = false ∨ 40 < m by
  rcases hf with h | h | h | h | h
  ·left; simp; omega
  ·left; simp; omega
  ·left; simp; omega
  ·left; simp; omega
  ·right; exact h)
 clear hf
 generalize (decide (1 ≤ s) && (decide (s ≤ 40) && (decide (n ≤ 25) && decide (q ≤ 12)))) = f at *
 cases f with
 | false =>
  go_enter Tryz.func6, Tryz.ntmps6
  go_wp2_with fail
  refine (cf _).mono ?_
  rintro e w1 ⟨rfl, hb⟩
  go_wp2_with fail
  refine (awake8_any _).mono ?_
  rintro e w2 ⟨rfl, hb2⟩
  have hw := hb.trans (hb2.mono hb.size)
  go_wp2
  go_ret
  exact ⟨rfl, hw⟩
 | true =>
  have hm : decide ((40 : Int) < (m : Int)) = true := by
   rw [em]
   rcases hQ.out with h | h
   ·cases h
   ·exact decide_eq_true h
  clear em
  go_enter Tryz.func6, Tryz.ntmps6
  go_wp2_with fail
  refine (cf _).mono ?_
  rintro e w1 ⟨rfl, hb⟩
  go_wp2_with fail
  refine (awake8_any _).mono ?_
  rintro e w2 ⟨rfl, hb2⟩
  have hw := hb.trans (hb2.mono hb.size)
  go_wp2
  go_ret
  exact ⟨rfl, hw⟩
theorem fc_meas {k n : Nat} (h : k < n) (hn : n ≤ 1000) : n - (intOf (.int .i64 (wrap64 ((k : Int) + 1)))).toNat < n - (intOf (.int .i64 (k : Int))).toNat := by rw [show wrap64 ((k : Int) + 1) = (k : Int) + 1 by rw [w64]; omega]; simp [intOf]; omega
theorem fc_n {k n : Nat} (h : k < n) (hn : n ≤ 1000) : Value.int .i64 (wrap64 ((k : Int) + 1)) = .int .i64 ((k + 1 : Nat) : Int) := by rw [show wrap64 ((k : Int) + 1) = (k : Int) + 1 by rw [w64]; omega]; rfl
theorem left_yes {mb b : Nat} {E : Es} {p q : Pt} {X : Tri3} (h : lftE E p q = (X, true)) (hk : okW (p, q)) {W : World} (B : Box W mb [.map (some b)] 81) (H : HoldsMap eW eT okW W b E) :
    ∀ d os, Calls Tryz.prog 22 #[.pointer (some ⟨mb, 0, none⟩), .agg #[.int .i64 p.x, .int .i64 p.y], .agg #[.int .i64 q.x, .int .i64 q.y]] (grow (redrawn W d) os) fun e w' => e = .returned (.tuple #[.agg #[.int .i64 X.A.x, .int .i64 X.A.y, .int .i64 X.B.x, .int .i64 X.B.y, .int .i64 X.C.x, .int .i64 X.C.y], .bool true]) ∧ Below (grow (redrawn W d) os).heap.size (grow (redrawn W d) os) w' := fun d os => by
 have hc := left_any mb b E p q hk _ (B.ext (below_regrown W d os) rfl) (H.ext (below_regrown W d os) rfl)
 rw [h] at hc
 exact hc
theorem kind_zero {sb c n : Nat} {a0 : Option Addr} {L : List Wl} {a b : Pt} (h : kindW L (lo2 a b) (hi2 a b) = 0) {W : World} (S : SetRd W sb a0 c n L) :
    ∀ d os, Calls Tryz.prog 27 #[.pointer (some ⟨sb, 0, none⟩), .agg #[.int .i64 a.x, .int .i64 a.y], .agg #[.int .i64 b.x, .int .i64 b.y]] (grow (redrawn W d) os) fun e w' => e = .returned (.int .i64 0) ∧ Below (grow (redrawn W d) os).heap.size (grow (redrawn W d) os) w' := fun d os => by
 have hc := kind_any sb a0 c n L a b _ (S.ext (below_regrown W d os) rfl)
 rw [h] at hc
 exact hc
set_option maxRecDepth 100000 in
set_option maxHeartbeats 8000000 in
theorem fc_yes (s : Int) (hs : 0 < s) (hs2 : s ≤ 40) (a0 : Option Addr) (n c0 : Nat) (hn : n ≤ 25) (P : List Int) (hP : Hid (P.length = n)) (a2 : Option Addr) (q c2 : Nat) (hq : q ≤ 12) (Q : List Pt) (hQ : Hid (Q.length = q)) (a1 : Option Addr) (m c1 : Nat) (hm : m ≤ 40) (X : List Int) (hX : Hid (X.length = m)) (w : World) (h0 : RowAt cI 1 w a0 P) (hq0 : RowAt cP 2 w a2 Q) (h1 : RowAt cI 1 w a1 X) :
    Calls Tryz.prog 6 #[.int .i64 s, .slice a0 n c0, .slice a2 q c2, .slice a1 m c1] w fun e w' => e = .returned (.bool true) ∧ Below w.heap.size w w' := by
 have cf := fun W => few8_any s a0 a2 n q c0 c2 W
 rw [show (decide (1 ≤ s) && (decide (s ≤ 40) && (decide (n ≤ 25) && decide (q ≤ 12)))) = true by simp; omega] at cf
 have em : ((40 : Int) < (m : Int)) = False := by simp; omega
 have HS := Lib.hid (show 0 < s ∧ s ≤ 40 from ⟨hs, hs2⟩)
 have HN := Lib.hid hn
 have HMM := Lib.hid hm
 have HQQ := Lib.hid hq
 clear hs hs2 hn hm hq
 go_enter Tryz.func6, Tryz.ntmps6
 go_wp2_with fail
 refine (cf _).mono ?_
 rintro e w1 ⟨rfl, hw⟩
 clear cf
 go_wp2_with fail
 refine (built8_any s HS.out.1 (by have := HS.out.2; omega) a0 a2 n q c0 c2 P hP (by have := HN.out; omega) Q hQ (by have := HQQ.out; omega) w1 (h0.ext hw rfl) (hq0.ext hw rfl)).mono ?_
 rintro e w2 hpost
 unfold Built8Post at hpost
 obtain ⟨m2, b2, sb, aS, cS, cb, mb, b, db, v, E2, E, L, D, rfl, _, _, _, SR, SC, hI, _, hL, hD, hK, hw2, _, _, hbb, _⟩ := hpost
 have HI := Lib.hid hI
 have HL := Lib.hid (show L.length ≤ 52 by have := HN.out; have := hP.out; omega)
 have HBB := Lib.hid (show w.heap.size ≤ b from Nat.le_trans hw.size hbb.1)
 have hw3 := hw.trans (hw2.mono hw.size)
 clear hI hL hK hbb hw2 em
 have co := rodd_any cb mb b db v s s HS.out.1 HS.out.1 (by have := HS.out.2; omega) (by have := HS.out.2; omega) E L D HI.out.good HI.out.fix.tiles (by have := HL.out; omega) a1 m c1 X hX HMM.out w2 SC (h1.ext hw3 rfl)
 go_wp2_with fail
 refine co.mono ?_
 rintro e w3 ⟨E3, L3, a3, c3, rfl, hg3, H3, R3, hr3⟩
 have SR3 := SR.turn SC.map hg3
 have hw4 := hw3.grown hg3 hw3.size (fun q hq => by cases hq; exact HBB.out)
 have HR3 := Lib.hid R3
 obtain ⟨p3, ok3, put3, G3⟩ := tris_new R3.good
 have HIS := Lib.hid (show srt cmpT (srt cmpT (heads (fun _ => true) E3)) = srt cmpT (heads (fun _ => true) E3) from wholeT.srt_of_perm (srt_perm _))
 generalize srt cmpT (heads (fun _ => true) E3) = I at *
 have HP3 := Lib.hid p3
 have HG3 := Lib.hid G3
 have hlen : I.length ≤ 52 := by rw [p3.length_eq, R3.kept.len]; exact HL.out
 obtain ⟨mi, hmi⟩ : ∃ z, I.length = z := ⟨_, rfl⟩
 rw [hmi] at put3 hlen ⊢
 have cn := fun W H => mnew_1 a3 c3 mi I (Lib.hid hmi) (by omega) ok3 put3 W H
 have HMI := Lib.hid (show I.length ≤ 94 by omega)
 have HMi := Lib.hid hmi
 clear co SC SR hg3 R3 p3 G3 H3 hw3 hmi ok3 put3 hlen
 generalize (putRun [] I).2 = E4 at *
 go_wp2_with fail
 refine (cn _ hr3).mono ?_
 rintro e w4 ⟨m4, b4, rfl, B4, H4, hb4, _, hb⟩
 have SR4 := SR3.ext hb rfl
 have hr4 := hr3.ext hb rfl
 have hw5 := hw4.trans (hb.mono hw4.size)
 have HB4 := Lib.hid (show w.heap.size ≤ b4 from Nat.le_trans hw4.size hb4)
 clear cn hr3 SR3 hb hb4 hw4
 have HSS := Lib.hid (show s < 16777216 by have := HS.out.2; omega)
 have HWI := Lib.hid (show WInv I D from (HI.out.wal.kept HR3.out.kept).kept (Kept.perm HP3.out.symm))
 have HTI := Lib.hid (HR3.out.tiles.perm HP3.out.symm)
 have hE4 : E4.length ≤ 90000 := by rw [HG3.out.len]; have := HMI.out; omega
 have hok4 : ∀ e ∈ E4, okT e.2 := fun e he => by
  obtain ⟨ww, T⟩ := e
  exact zB7 (HG3.out.val T (wys_mem.1 (HG3.out.perm.mem_iff.1 he)).1)
 have cB := fun W B H S => fBad_any m4 b4 E4 sb aS cS D.length D hE4 hok4 W B H S
 have cG := fun W B H S => fGood_any m4 b4 E4 sb aS cS D.length D hE4 hok4 W B H S
 have HX := Lib.hid (fb_facts HSS.out HSS.out HG3.out HTI.out HWI.out.good)
 have HRS := Lib.hid (FB_ris HSS.out HSS.out HG3.out HTI.out HWI.out.good)
 have HNIL := Lib.hid (FB_nil HSS.out HSS.out HG3.out HTI.out HWI.out.good)
 have hFL : (FB E4 D).length ≤ 900 := by have h1 := FB_le E4 D; rw [HG3.out.len] at h1; have := HMI.out; omega
 clear hE4 hok4
 generalize FB E4 D = F at *
 go_wp2_with fail
 refine (cB _ B4 H4 SR4).mono ?_
 rintro e w5 ⟨v5, rfl, hrB, hb⟩
 obtain ⟨aB, cB2, rfl, hrow, _⟩ := hrB.row
 obtain ⟨mF, hmF⟩ : ∃ z, F.length = z := ⟨_, rfl⟩
 rw [hmF] at hFL cG ⊢
 have HMF := Lib.hid hmF
 have HMF1 := Lib.hid (show mF ≤ 1000 by omega)
 replace B4 := B4.ext hb rfl
 replace H4 := H4.ext hb rfl
 replace hr4 := hr4.ext hb rfl
 replace SR4 := SR4.ext hb rfl
 replace hw5 := hw5.trans (hb.mono hw5.size)
 clear cB hrB hb hmF hFL
 go_wp2_with fail
 go_loopw [16] (fun vi wr => ∃ i : Nat, vi = .int .i64 i ∧ i ≤ mF ∧ Below w5.heap.size w5 wr) (fun vi _ => mF - (intOf vi).toNat)
 case atStart => exact ⟨0, rfl, Nat.zero_le _, Below.refl _ _⟩
 case round =>
  obtain ⟨i, rfl, hi, hwr⟩ := hrel
  have BR := B4.ext hwr rfl
  have HR := H4.ext hwr rfl
  have SRR := SR4.ext hwr rfl
  by_cases hlt : i < mF
  case pos =>
   have HLT := Lib.hid hlt
   have hq0 : (i : Int) < (mF : Int) := by omega
   have hiF : i < F.length := by rw [HMF.out]; exact hlt
   obtain ⟨ad, A, ea, eA, hA⟩ := (hrow.ext hwr rfl).five (j := i) hiF
   obtain ⟨⟨X1, hX1⟩, ⟨X2, hX2⟩, hk0, ok1, ok2, hK1⟩ := HX.out _ (List.getElem_mem hiF)
   replace hK1 := Lib.hid hK1
   have HPREV := Lib.hid (fun (k : Nat) (hk : k + 1 = i) (W : World) (h : Below w5.heap.size w5 W) => show ∃ Y : Wl, cmpW Y F[i] < 0 ∧ Y.K = 1 ∧ ∃ ad A, aB = some ad ∧ ad.add (k * 5) = A ∧ Five W A Y from
    ⟨F[k]'(by omega), rising_lt HRS.out (by omega) hiF (by omega), (HX.out _ (List.getElem_mem (by omega))).2.2.2.2.2, (hrow.ext h rfl).five (j := k) (by omega)⟩)
   generalize F[i] = x at *
   have cl := left_yes hX1 ok1 BR HR
   have hc := hA.cells
   subst ea
   go_wp2_with fail
   obtain ⟨s0, s1, s2, s3, s4⟩ := hc
   refine rlx 15 17 84 (fun w6 bk6 hb h1b h2b B6 => ?_)
   have hw6 := hwr.trans (hb.mono hwr.size)
   have BR6 := BR.ext hb rfl
   have HR6 := HR.ext hb rfl
   have SR6 := SRR.ext hb rfl
   have hA6 := hA.ext hb rfl
   clear cl s0 s1 s2 s3 s4 hb h1b h2b BR HR SRR hA hwr B6
   simp only [Act.put]
   go_wp2_with fail
   have cl := left_yes hX2 ok2 BR6 HR6
   obtain ⟨s0, s1, s2, s3, s4⟩ := hA6.cells
   refine rlx 15 19 99 (fun w8 bk8 hb h1b h2b B8 => ?_)
   have hw8 := hw6.trans (hb.mono hw6.size)
   have SR8 := SR6.ext hb rfl
   have hA8 := hA6.ext hb rfl
   clear cl s0 s1 s2 s3 s4 hb h1b h2b BR6 HR6 SR6 hA6 hw6 B8
   simp only [Act.put]
   go_wp2_with fail
   have ck := kind_zero hk0 SR8
   obtain ⟨s0, s1, s2, s3, s4⟩ := hA8.cells
   rcases Nat.eq_zero_or_pos i with h0 | hpos
   ·subst h0
    refine rgx 37 (fun w10 hb => ?_)
    have hw10 := hw8.trans (hb.mono hw8.size)
    clear ck s0 s1 s2 s3 s4 hb hw8 SR8 hA8 HPREV
    go_wp2
    go_roundw
    case rel => exact ⟨1, rfl, HLT.out, hw10⟩
    case measure => have h9 := HLT.out; simp [intOf]; omega
   ·obtain ⟨k, hk1⟩ : ∃ k, k + 1 = i := ⟨i - 1, by omega⟩
    obtain ⟨Y, hcm, hKY, ad2, A2, ea2, eA2, hA2⟩ := HPREV.out k hk1 _ hw8
    obtain rfl : ad2 = ad := (Option.some.inj ea2).symm
    obtain ⟨t0, t1, t2, t3, t4⟩ := hA2.cells
    have cm := fun W => rcmpW_any Y x (by omega) (by have h := hK1.out; omega) W
    clear hKY
    have hgt : (0 : Int) < (i : Int) := by omega
    have hq1 : IntKind.i64.wrap ((i : Int) - 1) = (k : Int) := by have h1 := HMF1.out; have h2 := HLT.out; rw [IntKind.wrap_i64]; omega
    have hq2 : (k : Int) < (mF : Int) := by omega
    generalize cmpW Y x = z at *
    clear hk1 HPREV
    refine rgx 37 (fun w10 hb => ?_)
    have hw10 := hw8.trans (hb.mono hw8.size)
    clear ck cm s0 s1 s2 s3 s4 t0 t1 t2 t3 t4 hb hw8 SR8 hA8 hA2
    go_wp2
    go_roundw
    case rel => exact ⟨i + 1, fc_n HLT.out HMF1.out, HLT.out, hw10⟩
    case measure => exact fc_meas HLT.out HMF1.out
  case neg =>
   have hin : ¬ (i : Int) < (mF : Int) := by omega
   clear hlt hi
   have hr6 := hr4.ext hwr rfl
   have hw6 := hw5.trans (hwr.mono hw5.size)
   have cG2 := cG _ BR HR SRR
   have hg0 : decide ((mF : Int) = 0) = decide (mF = 0) := by simp
   have HG0 := Lib.hid (fun (h : decide (mF = 0) = true) => show F = [] from List.length_eq_zero_iff.1 (HMF.out.trans (of_decide_eq_true h)))
   obtain ⟨g, hg1⟩ : ∃ g, decide (mF = 0) = g := ⟨_, rfl⟩
   rw [hg1] at hg0 cG2 HG0
   have hg2 : ((mF : Int) == 0) = g := by rw [← hg0, Bool.eq_iff_iff]; simp
   clear cG hrow HX HRS SR4 H4 B4 hr4 hwr hw5
   go_wp2_with fail
   refine cG2.mono ?_
   rintro e w6 ⟨rfl, hb⟩
   replace BR := BR.ext hb rfl
   replace HR := HR.ext hb rfl
   replace SRR := SRR.ext hb rfl
   replace hr6 := hr6.ext hb rfl
   replace hw6 := hw6.trans (hb.mono hw6.size)
   clear hb cG2
   have cr := fRepair_any m4 b4 E4 I sb aS cS D.length D s s HSS.out HSS.out HMI.out HG3.out HTI.out w6 BR HR SRR
   go_wp2_with fail
   refine cr.mono ?_
   rintro e w7 ⟨rfl, E5, L5, hg5, H7, R5, F5⟩
   have B7 := BR.turn HR hg5
   have S7 := SRR.turn HR hg5
   have hr7 := hr6.turn cT_ne HR hg5
   have hw7 := hw6.grown hg5 hw6.size (fun q hq => by cases hq; exact HB4.out)
   have HR5 := Lib.hid R5
   have HF5 := Lib.hid F5
   have HW5 := Lib.hid (HWI.out.kept R5.kept)
   have hE5 : E5.length ≤ 1000000 := by rw [R5.good.len, R5.kept.len]; have := HMI.out; omega
   have ct := mtris_any m4 b4 E5 hE5 w7 B7 H7
   have HSAME := Lib.hid (fun (h : g = true) => show srt cmpT (heads (fun _ => true) E5) = I from
    ((fix_same HS.out.1 HSS.out R5.good HG3.out F5 (HNIL.out.1 (HG0.out h)) HW5.out.edge HWI.out.edge R5.kept.cnr).trans (wholeT.srt_of_perm HG3.out.heads)).trans HIS.out)
   have HJL := Lib.hid (show (srt cmpT (heads (fun _ => true) E5)).length = mi by rw [(tris_new R5.good).1.length_eq, R5.kept.len]; exact HMi.out)
   have HJ := Lib.hid (show ∀ E6 L6, RSt s s D L5 E6 L6 → Fixed s s (wll D) L6 → srt cmpT (heads (fun _ => true) E6) = srt cmpT (heads (fun _ => true) E5) from fun E6 L6 R6 F6 => fix_same HS.out.1 HSS.out R6.good HR5.out.good F6 HF5.out (HW5.out.kept R6.kept).edge HW5.out.edge R6.kept.cnr)
   rw [HJL.out] at ct
   generalize srt cmpT (heads (fun _ => true) E5) = J at *
   clear cr hg5 R5 F5 hE5 BR HR SRR hr6 hw6 HNIL HG0
   go_wp2_with fail
   refine ct.mono ?_
   rintro e w8 ⟨a8, c8, rfl, hr8, hb⟩
   replace B7 := B7.ext hb rfl
   replace H7 := H7.ext hb rfl
   replace S7 := S7.ext hb rfl
   replace hr7 := hr7.ext hb rfl
   replace hw7 := hw7.trans (hb.mono hw7.size)
   clear hb ct
   have cal := alike_T a8 a3 c8 c3 J I w8 hr8 hr7 (by rw [HJL.out]; have := HMI.out; have := HMi.out; omega)
   rw [HJL.out, HMi.out] at cal
   cases g
   case' true =>
    rw [decide_eq_true (HSAME.out rfl)] at cal
    go_wp2_with fail
    refine cal.mono ?_
    rintro e w9 ⟨rfl, hb⟩
    replace B7 := B7.ext hb rfl
    replace H7 := H7.ext hb rfl
    replace S7 := S7.ext hb rfl
    replace hr7 := hr7.ext hb rfl
    replace hr8 := hr8.ext hb rfl
    replace hw7 := hw7.trans (hb.mono hw7.size)
    clear hb cal HSAME
    have cr := fRepair_any m4 b4 E5 L5 sb aS cS D.length D s s HSS.out HSS.out (by rw [HR5.out.kept.len]; exact HMI.out) HR5.out.good HR5.out.tiles _ B7 H7 S7
    go_wp2_with fail
   case' false =>
    clear cal HSAME
    have hg3 : ¬ mF = 0 := of_decide_eq_false hg1
    have hg4 : ¬ (mF : Int) = 0 := of_decide_eq_false hg0
    have cr := fRepair_any m4 b4 E5 L5 sb aS cS D.length D s s HSS.out HSS.out (by rw [HR5.out.kept.len]; exact HMI.out) HR5.out.good HR5.out.tiles _ B7 H7 S7
    go_wp2_with fail
   all_goals
    refine cr.mono ?_
    rintro e w10 ⟨rfl, E6, L6, hg6, H10, R6, F6⟩
    have B10 := B7.turn H7 hg6
    replace hr7 := hr7.turn cT_ne H7 hg6
    replace hr8 := hr8.turn cT_ne H7 hg6
    replace hw7 := hw7.grown hg6 hw7.size (fun q hq => by cases hq; exact HB4.out)
    have hE6 : E6.length ≤ 1000000 := by rw [R6.good.len, R6.kept.len, HR5.out.kept.len]; have := HMI.out; omega
    have ct := mtris_any m4 b4 E6 hE6 _ B10 H10
    have HR6 := Lib.hid R6
    rw [HJ.out E6 L6 R6 F6, HJL.out] at ct
    have cp := fun W B H => mpoints_any m4 b4 E6 hE6 W B H
    have HE6 := Lib.hid (show (froms E6).length ≤ 282 from by unfold froms; rw [List.length_map, R6.good.len, R6.kept.len, HR5.out.kept.len]; have := HMI.out; omega)
    clear cr hg6 R6 F6 hE6 H7 B7 S7
    go_wp2_with fail
    refine ct.mono ?_
    rintro e w11 ⟨a11, c11, rfl, hr11, hb⟩
    replace B10 := B10.ext hb rfl
    replace H10 := H10.ext hb rfl
    replace hr7 := hr7.ext hb rfl
    replace hr8 := hr8.ext hb rfl
    replace hw7 := hw7.trans (hb.mono hw7.size)
    clear hb ct
    have cal := alike_T a11 a8 c11 c8 J J w11 hr11 hr8 (by rw [HJL.out]; have := HMI.out; have := HMi.out; omega)
    rw [HJL.out, decide_eq_true (rfl : J = J)] at cal
    go_wp2_with fail
    refine cal.mono ?_
    rintro e w12 ⟨rfl, hb⟩
    replace B10 := B10.ext hb rfl
    replace H10 := H10.ext hb rfl
    replace hr7 := hr7.ext hb rfl
    replace hw7 := hw7.trans (hb.mono hw7.size)
    clear hb cal hr11 hr8
    go_wp2_with fail
    refine (cp _ B10 H10).mono ?_
    rintro e w13 ⟨M, a13, c13, rfl, hr13, hris, hmem, hb⟩
    replace hr7 := hr7.ext hb rfl
    replace hw7 := hw7.trans (hb.mono hw7.size)
    have HML := Lib.hid (show M.length ≤ 1000000 from Nat.le_trans (nodup_sub (rising_nodup hris) (fun p hp => (hmem p).1 hp)) (Nat.le_trans HE6.out (by omega)))
    have HRM := Lib.hid hris
    have HMM := Lib.hid hmem
    clear hb cp B10 H10 hris hmem
    go_wp2_with fail
    refine (rcorners_any a3 c3 mi I HMi (by have := HMI.out; have := HMi.out; omega) _ hr7).mono ?_
    rintro e w14 ⟨M2, a14, c14, rfl, hr14, hris, hmem, hb⟩
    replace hr13 := hr13.ext hb rfl
    replace hw7 := hw7.trans (hb.mono hw7.size)
    have cal := alike_P a13 a14 c13 c14 M M2 w14 hr13 hr14 HML.out
    rw [decide_eq_true (zFc wholeP HRM.out hris fun p => by rw [HMM.out p, hmem p, HR6.out.good.froms (List.Perm.refl _) p, cnrs_mem, cnrs_mem, HR6.out.kept.cnr p, HR5.out.kept.cnr p])] at cal
    clear hb hr7 hris hmem hr13 hr14
    go_wp2_with fail
    refine cal.mono ?_
    rintro e w15 ⟨rfl, hb⟩
    replace hw7 := hw7.trans (hb.mono hw7.size)
    clear hb cal
    go_wp2_with fail
    refine (awake8_any _).mono ?_
    rintro e w16 ⟨rfl, hb⟩
    replace hw7 := hw7.trans (hb.mono hw7.size)
    go_wp2
    go_ret
    exact ⟨rfl, hw7⟩
end Go.Proofs.YtogffkimgmlilaaGreat
