/- Put together: FlowC, MfC, MfN, TrP, MesRow. -/
import Derived.Test.YtjkfakaehjmnbaaGreatPmf11
import Derived.Test.YtjkfakaehjmnbaaGreatRows
import Derived.Test.YtjkfakaehjmnbaaGreatPmf6
import Derived.Test.YtjkfakaehjmnbaaGreatPmf18
import Derived.Test.YtjkfakaehjmnbaaGreatPmf17
import Derived.Test.YtjkfakaehjmnbaaGreatPmf10
import Derived.Test.YtjkfakaehjmnbaaGreatPmf7
import Derived.Test.YtjkfakaehjmnbaaGreatPmf15
import Derived.Test.YtjkfakaehjmnbaaGreatPmf13
import Derived.Test.YtjkfakaehjmnbaaGreatPmf1
import Derived.WalkKit
import Derived.WalkSpells
import Derived.WalkLawsBesides
import Derived.Laws.Externs
import Derived.Deep.QuietTactic
import Derived.BigQuiet
import Derived.Lib.Hide
import Derived.Handy
import Derived.OwnWalk
import Derived.Deep.Cut
import Derived.LoopN
import Derived.RegionTactic
import Derived.Test.YtjkfakaehjmnbaaGreatPmf5
import Derived.ProofKit
import Derived.Lib.SmallJoins
import Derived.Deep.Strs
import Derived.Deep.Slices
import Derived.Carry
set_option maxRecDepth 100000
set_option maxHeartbeats 40000000
namespace Go.Proofs.YtjkfakaehjmnbaaGreat.FT
open Go.RowKit Go.Sort
variable {P : Program} {Q : Exit → Act → World → Prop}
theorem wp_region_flowC {id : Nat} {a : Act} {w : World} {l : List Oper} (n : Nat) (pl : Plan) (hm : P.follows .mixedOrders = true) (hB : (Region.noSelect l.toArray && decide (n < l.toArray.size) && Region.sinkB .any l.toArray n && Region.chainB .any l.toArray n && planB .any n l.toArray [] pl (Array.replicate l.toArray.size false)) = true)
    (hQ : ∀ c x v a w, Q (.panic c) (Act.put a x v) w → Q (.panic c) a w) {C : World → Prop} (hC : ∀ w', Below w.heap.size w w' → C w') (hcl : ∀ x y, Ext x y → C x → C y) (h : flow P l.toArray n Q pl C a w) : (Code.region id l.toArray true).wp P Q a w := by
 simp only [Bool.and_eq_true, decide_eq_true_eq] at hB;obtain ⟨⟨⟨⟨h1, h2⟩, h3⟩, h4⟩, h5⟩ := hB;refine wp_region_any hm ?_;have hx : Ext w { w with drawn := w.drawn + 1 } := ⟨rfl, rfl, rfl, Nat.le_refl _, fun _ _ => rfl⟩;exact zHk h1 h2 h3 h4 hQ _ pl C _ a w _ h5 headInv0 (by
  have := List.length_filter_le (fun i => !(Array.replicate l.toArray.size false).getD i true) (List.range n);rw [List.length_range] at this;unfold undone;omega) hcl (hC _ hx) hx h
end Go.Proofs.YtjkfakaehjmnbaaGreat.FT
namespace Go.Proofs.YtjkfakaehjmnbaaGreat
open Go.RowKit Go.Sort
attribute [local go_sem] rOper rAt rUpon cell_set sg_i64 sg_u64 alloc_cell alloc_frozen
attribute [local go_sem 10000] pt_eql pt_neq tri_eql
attribute [local irreducible] rWalk
theorem spt_ok {s : Int} (h : 0 < s) (h2 : s ≤ 30) (n : Int) : okP (spt s n) := zC5 (by
 have := zJb h n;rw [zAx]; unfold inBox at this; omega)
theorem mf_k {k m : Nat} (h : k < m) (hm : m ≤ 40) : wrap64 ((k : Int) + 1) = (k : Int) + 1 := by rw [w64]; omega
theorem mf_n {m k : Nat} (h : k < m) (hm : m ≤ 40) : Value.int .i64 (wrap64 ((k : Int) + 1)) = .int .i64 ((k + 1 : Nat) : Int) := by rw [mf_k h hm]; rfl
theorem zFe {m k : Nat} (h : k < m) (hm : m ≤ 40) : m - (intOf (.int .i64 (wrap64 ((k : Int) + 1)))).toNat < m - (intOf (.int .i64 (k : Int))).toNat := by rw [mf_k h hm]; simp [intOf]; omega
theorem mf_l {a b k : Nat} (h : a ≤ b + 2) (h2 : b ≤ 32 + 10 * k) : a ≤ 32 + 10 * (k + 1) := by omega
theorem mf_t {a k n : Nat} (h : a ≤ 32 + 10 * (k + 1)) (h2 : k < n) (h3 : n ≤ 40) : a ≤ 1000 := by omega
theorem mf_m {n : Nat} (h : n ≤ 10) : n ≤ 1000000 := by omega
theorem mf_l2 {a b c k : Nat} (h : a ≤ b + c) (h2 : b ≤ 32 + 10 * k) (h3 : c ≤ 10) : a ≤ 32 + 10 * (k + 1) := by omega
theorem mf_rb {x rb rb' y : Nat} (h : rb' = rb ∨ y ≤ rb') (h1 : x ≤ rb) (h2 : x ≤ y) : x ≤ rb' := by omega
theorem mf_z {E D : Es} {L : List Tri3} (g : Good D L) (g2 : Good E L) (h : ((D.length : Int) == 0) = true) : E.length = 3 * 0 := by
 have h1 : D.length = 0 := by simpa using h
 rw [g2.len, ← g.len, h1]
theorem mf_tm {w : World} {x y : Nat} {T : Tri3} {v : Value} (h : Box w x [.int .i64 T.A.x, .int .i64 T.A.y, .int .i64 T.B.x, .int .i64 T.B.y, .int .i64 T.C.x, .int .i64 T.C.y] 43) (k : Box w y [v] 54) : x ≠ y := by
 intro e;unfold Box at h k;rw [e, k] at h;simp at h
theorem mf_cut {T U : Tri3} {q : Pt} (h : U ∈ cutR T q) : okT U := by
 have one : ∀ a b : Pt, U ∈ part q a b → okT U := fun a b h => by
  unfold part at h;split at h
  ·cases h
  ·rw [List.mem_singleton.1 h]; exact zL1 _ _ _
 unfold cutR at h;split at h
 ·unfold cutP at h;rcases List.mem_append.1 h with h | h
  ·exact one _ _ h
  ·rcases List.mem_append.1 h with h | h
   ·exact one _ _ h
   ·exact one _ _ h
 ·cases h
theorem mf_cutl (T : Tri3) (p : Pt) : (cutR T p).length ≤ 10 := by
 have one : ∀ a b : Pt, (part p a b).length ≤ 1 := fun a b => by unfold part; split <;> simp
 unfold cutR;split
 ·unfold cutP;have h1 := one T.A T.B;have h2 := one T.B T.C;have h3 := one T.C T.A;simp only [List.length_append]; omega
 ·simp
theorem mf_max {L : List Tri3} {k m : Nat} (h : L.length ≤ 32 + 10 * k) (hk : k ≤ 40) (e : L.length = m) : m ≤ 432 := by omega
theorem mf_yes (s : Int) (hs : 0 < s) (hs2 : s ≤ 30) (a0 : Option Addr) (n c0 : Nat) (hn : n ≤ 15) (P : List Int) (hP : Hid (P.length = n)) (aa : Option Addr) (na ca : Nat) (hna : Hid (na ≤ 40)) (X : List Pt) (hX : Hid (X.length = na)) (am : Option Addr) (nm cm : Nat) (hnm : Hid (nm ≤ 10)) (hcm : nm ≤ cm) (Y : List Tri3) (hY : Hid (Y.length = nm)) (hokY : Hid (∀ T ∈ Y, okT T)) (w : World) (h0 : RowAt cI 1 w a0 P) (h1 : RowAt cP 2 w aa X) (h2 : RowAt cT 6 w am Y) :
    Calls Tryz.prog 3 #[.int .i64 s, .slice a0 n c0, .slice aa na ca, .slice am nm cm] w fun e w' => e = .returned (.bool true) ∧ Below w.heap.size w w' := by
 have HRA := Lib.hid h1;have HRM := Lib.hid h2;have HCM := Lib.hid hcm;have hab : ((40 : Int) < (na : Int)) = False := by have := hna.out; simp; omega
 have hmb : ((10 : Int) < (nm : Int)) = False := by have := hnm.out; simp; omega
 clear h1 h2 hcm;have cn := rnewcdt_any s s hs hs (by omega) (by omega);have csp := fun x => spot_any s x hs (by omega);have HS := Lib.hid hs;have HS2 := Lib.hid hs2;have HN := Lib.hid hn;have hsb : (s < 1) = False := by simp; omega
 have hsb2 : (30 < s) = False := by simp; omega
 have hnb : ((15 : Int) < (n : Int)) = False := by simp; omega
 go_enter Tryz.func3, Tryz.ntmps3
 go_wp2_with fail;refine (cn _).mono ?_;rintro e w1 ⟨cb, mb, b, db, v, E, L, D, rfl, S, hI, hL, hC, hD, hw, hb1, hb2, hb3, hb4⟩;have hC' := Lib.hid (show ∀ q, someC L q ↔ PutPt s [] q from fun q => by rw [hC q]; simp [PutPt]);have hI' := Lib.hid hI;have hL' := Lib.hid (show L.length ≤ 2 + 2 * 0 by omega);have hD' := Lib.hid (show D.length ≤ 4 + 2 * 0 by rw [hD.length_eq]; simp);replace hb1 := Lib.hid hb1;replace hb2 := Lib.hid hb2;replace hb3 := Lib.hid hb3;replace hb4 := Lib.hid hb4;clear hab hmb;clear cn hI hL hC hD hsb hsb2 hnb hs hs2 hn;go_wp2_with fail
 go_loopw [10] (fun vi wr => ∃ (k : Nat) (v : Value) (E : Es) (L : List Tri3) (D : List Wl), vi = .int .i64 k ∧ k ≤ n ∧ CdtAt wr cb mb b db v s s E D ∧ Hid (CInv s s E L D) ∧ Hid (∀ q, someC L q ↔ PutPt s (P.take k) q) ∧ Hid (L.length ≤ 2 + 2 * k) ∧ Hid (D.length ≤ 4 + 2 * k) ∧ Below w.heap.size w wr) (fun vi _ => n - (intOf vi).toNat)
 case atStart => exact ⟨0, v, E, L, D, rfl, Nat.zero_le _, S, hI', by simpa using hC', hL', hD', hw⟩
 case round =>
  clear S hI' hC' hL' hD' hw;obtain ⟨k, v, E, L, D, rfl, hk, S, hI, hC, hL, hD, hw⟩ := hrel;by_cases hlt : k < n
  case pos =>
   have hlk : k < P.length := hP.out ▸ hlt;have HQ := Lib.hid (show P.take (k + 1) = P.take k ++ [P[k]] from List.take_succ_eq_append_getElem hlk);obtain ⟨ad, ea, hab0, hA0⟩ := h0.num hlk;have hA := (h0.ee hw).num hlk;obtain ⟨ad2, ea2, hab, hA⟩ := hA;obtain rfl : ad = ad2 := by rw [ea] at ea2; exact Option.some.inj ea2
   clear hA0 ea2;generalize P[k] = x at *
   go_wp2_with fail;refine (csp x _).mono ?_;rintro e w3 ⟨rfl, hb⟩;replace S := S.ee hb;replace hw := upB hw hb;clear hb hA;go_wp2_with fail;have hNn := HN.out;have hSs := HS.out;have hSs2 := HS2.out;have hLk : L.length ≤ 2 + 2 * k := hL.out;have hDk : D.length ≤ 4 + 2 * k := hD.out;refine (rcadd_any cb mb b db v s s hSs hSs (by omega) (by omega) E L D hI.out (by omega) (by omega) (spt s x) _ S).mono ?_;rintro e w4 ⟨r, v', E', L', D', rfl, S', hI2, hr, hC2, hL2, hD2, hf⟩;have hw4 : Below w.heap.size w w4 := hw.trans (hf.below (fun j hj => by have := hb1.out; have := hb2.out; rcases hj with rfl | rfl <;> omega) hw.size);have hC3 := Lib.hid (show ∀ q, someC L' q ↔ PutPt s (P.take (k + 1)) q from fun q => by
    rw [hC2 q, hC.out q, HQ.out];have hin : inBox s s (spt s x) := zJb hSs x;unfold PutPt;constructor
    ·rintro ((h | ⟨y, h1, h2⟩) | ⟨h, _⟩)
     ·exact .inl h
     ·exact .inr ⟨y, List.mem_append_left _ h1, h2⟩
     ·exact .inr ⟨x, by simp, h⟩
    ·rintro (h | ⟨y, h1, h2⟩)
     ·exact .inl (.inl h)
     ·rcases List.mem_append.1 h1 with h1 | h1
      ·exact .inl (.inr ⟨y, h1, h2⟩)
      ·rw [List.mem_singleton] at h1;rw [h1] at h2;exact .inr ⟨h2, hin⟩)
   have hL3 := Lib.hid (show L'.length ≤ 2 + 2 * (k + 1) by omega);have hD3 := Lib.hid (show D'.length ≤ 4 + 2 * (k + 1) by omega);have hI3 := Lib.hid hI2;clear hC2 hL2 hD2 hf hr hLk hDk hI2 S hw hSs hSs2;go_wp2_with fail;rw [← ea]
   go_roundw
   case rel => exact ⟨k + 1, v', E', L', D', by go_num, by omega, S', hI3, hC3, hL3, hD3, hw4⟩
   case measure => simp [intOf]; omega
  case neg =>
   obtain rfl : k = n := by omega
   have HC := Lib.hid (show ∀ q, someC L q ↔ PutPt s P q from fun q => by rw [hC.out q, List.take_of_length_le (by rw [hP.out]; omega)]);clear hC hlt hk;have hG := hI.out.good;have hLk := hL.out;have hNn := HN.out;have hE : E.length ≤ 1000000 := by rw [hG.len]; omega
   have ht := fun W B H => zGj mb b E hE W B H;have hp0 : (srt cmpT (heads (fun _ => true) E)).Perm L := (zAo _).trans hG.heads;have HRS := Lib.hid (show srt cmpT (srt cmpT (heads (fun _ => true) E)) = srt cmpT (heads (fun _ => true) E) from wholeT.srt_of_perm (zAo _));generalize srt cmpT (heads (fun _ => true) E) = I at *
   obtain ⟨m, hm⟩ : ∃ m, I.length = m := ⟨_, rfl⟩;rw [hm] at ht;have HM := Lib.hid hm;have hm1 : m ≤ 1000000 := by rw [← hm, hp0.length_eq]; omega
   have HM1 := Lib.hid (show m ≤ 100 by rw [← hm, hp0.length_eq]; omega);have hv : ∀ T ∈ I, valT T = true := fun T h => hG.val T (hp0.mem_iff.1 h);have hgo := Good.puts (I := I) (E := []) (M := []) ⟨by simp, by simp [KeysNodup], by simp⟩ hv (by
    rw [List.append_nil];exact ((hp0.flatMap_right ways).nodup_iff).2 hG.once)
   rw [List.append_nil, hm] at hgo;obtain ⟨hg1, hg2⟩ := hgo;have HG := Lib.hid (show Good (putRun [] I).2 I from hg2);have HV := Lib.hid hv;have HP0 := Lib.hid hp0;have hn2 := fun a cap W H => mnew_1 a cap m I (Lib.hid hm) hm1 (fun T h => zB1 (hv T h)) hg1 W H;generalize (putRun [] I).2 = E2 at *
   clear hg1 hg2 hv hp0 hm1 hE hG hLk hm hNn;obtain ⟨xs, ys, zs, vs⟩ := S.box.f;go_wp2_with fail;clear xs ys zs vs;refine (ht _ S.mesh S.map).mono ?_;rintro e w5 ⟨a5, c5, rfl, hc5', hr5, hb⟩;replace S := S.ee hb;have hw5 := (upB hw hb);clear hb ht hw;go_wp2_with fail;refine (hn2 _ _ _ hr5).mono ?_;rintro e w6 ⟨m2, b2, rfl, B2, H2, h1, h2, hb⟩;have S6 := S.ee hb;have hr6 := hr5.ee hb;have hw6 := (upB hw5 hb);have HT := Lib.hid hI.out.fix.tiles;have HB2 := Lib.hid (show w.heap.size ≤ b2 from Nat.le_trans hw5.size h1);have HNE := Lib.hid (show b ≠ b2 ∧ m2 ≠ mb from ⟨by have := S.map.lt; omega, by have := S.mesh.lt; omega⟩);clear hb hn2 hr5 h1 h2 hw5 S;have SM : TwoM w6 cb mb b m2 b2 db s E2 E := ⟨S6.box, S6.mesh, S6.map, B2, H2, HNE.out.1, fun e => by
    have k1 := S6.box;have k2 := S6.mesh;unfold Box at k1 k2;rw [e, k2] at k1;simp at k1, HNE.out.2⟩
   have HGE := Lib.hid (show Good E2 I from HG.out);have HPE := Lib.hid (show E.Perm E2 from hI.out.good.perm.trans (((HP0.out.flatMap_right wys)).symm.trans HG.out.perm.symm));have HLE := Lib.hid (show I.length ≤ 32 + 10 * 0 by rw [HP0.out.length_eq]; have := hL.out; have := HN.out; omega);clear S6 B2 H2 hr6 HRS HM HM1 HV HP0 HG HC HNE hc5' HT;go_wp2_with fail
   go_loopw [13] (fun vi wr => ∃ (k rb : Nat) (E D : Es) (L : List Tri3), vi = .int .i64 k ∧ k ≤ na ∧ TwoM wr cb mb rb m2 b2 db s E D ∧ Hid (Good E L) ∧ Hid (D.Perm E) ∧ Hid (L.length ≤ 32 + 10 * k) ∧ Hid (w.heap.size ≤ rb) ∧ Below w.heap.size w wr) (fun vi _ => na - (intOf vi).toNat)
   case atStart => exact ⟨0, b, E2, E, I, rfl, Nat.zero_le _, SM, HGE, HPE, HLE, hb1, hw6⟩
   case round =>
    clear SM HGE HPE HLE hw6 hI;obtain ⟨k, rb, E, D, L, rfl, hk, SM, HG, HP, HL, HRB, hw⟩ := hrel;by_cases hlt : k < na
    case neg =>
     go_wp2_with fail;refine (zBs _).mono ?_;rintro e wf ⟨rfl, hb⟩;have hwf := (upB hw hb);go_wp2
     go_ret
     exact ⟨rfl, hwf⟩
    case pos =>
     have hlk : k < X.length := hX.out ▸ hlt;obtain ⟨ad, A, ea, eA, hA⟩ := (HRA.out.ee hw).two hlk;generalize X[k] = x at *
     have hk40 : k ≤ 39 := by have := hna.out; omega
     have hlD : D.length ≤ 1000000 := by rw [HP.out.length_eq, HG.out.len]; have := HL.out; omega
     have ht := fun W B H => zGj mb rb D hlD W B H;have hp0 : (srt cmpT (heads (fun _ => true) D)).Perm L := (zAo _).trans (HG.out.same HP.out).heads;generalize srt cmpT (heads (fun _ => true) D) = I at *
     obtain ⟨m, hm⟩ : ∃ m, I.length = m := ⟨_, rfl⟩;rw [hm] at ht;have HM := Lib.hid hm;have HM1 := Lib.hid (show m ≤ 432 from mf_max (k := k) (by rw [← hp0.length_eq] at HL; exact HL.out) (by omega) hm);have HP0 := Lib.hid hp0;have HLT := Lib.hid hlt;clear hm hp0 hlD hk40 hlk;obtain ⟨xs, ys, zs, vs⟩ := SM.cbox.f;go_wp2_with fail;clear xs ys zs vs;refine (ht _ SM.mbox SM.mmap).mono ?_;rintro e w7 ⟨a7, c7, rfl, hc7, hr7, hb⟩;replace SM := SM.ee hb;replace hA := hA.ee hb;replace hw := upB hw hb;clear hb ht;by_cases hm0 : m = 0
     case pos =>
      subst hm0;have hE0 := Lib.hid (show E.length = 3 * 0 by rw [HG.out.len, ← HP0.out.length_eq, HM.out]);have cl := fun W B H => zFc m2 b2 E 0 hE0 (by omega) W B H;go_wp2_with fail;refine (cl _ SM.pbox SM.pmap).mono ?_;rintro e w8 ⟨rfl, hb⟩;replace hw := upB hw hb;clear hb cl;go_wp2_with fail;refine (zBs _).mono ?_;rintro e w9 ⟨rfl, hb⟩;have hwf := (upB hw hb);go_wp2
      go_ret
      exact ⟨rfl, hwf⟩
     case neg =>
      have hm0' : ((m : Int) == 0) = false := by simp; omega
      have HMP := Lib.hid (show 0 < m by omega);have hml := HM1.out;obtain ⟨kk, ek, lk⟩ : ∃ i : Nat, x.x % m = i ∧ i < m := ⟨(x.x % m).toNat, by have := Int.emod_nonneg x.x (b := (m : Int)) (by omega); omega, by have := Int.emod_lt_of_pos x.x (b := (m : Int)) (by omega); have := Int.emod_nonneg x.x (b := (m : Int)) (by omega); omega⟩;have cr := fun W => zJe (i := x.x) (n := m) (by omega) (by omega) W;rw [ek] at cr;have cr7 := fun W => zJe (i := x.y) (n := 7) (by omega) (by omega) W;obtain ⟨k7, e7, l7⟩ : ∃ i : Nat, x.y % 7 = i ∧ i < 7 := ⟨(x.y % 7).toNat, by omega, by omega⟩;rw [e7] at cr7;have hk1 : kk < I.length := by rw [HM.out]; exact lk
      have HT1 := Lib.hid (HP0.out.mem_iff.1 (List.getElem_mem hk1));obtain ⟨ad7, A7, ea7, eA7, hA7⟩ := hr7.six hk1;generalize I[kk] = T at *
      subst ea7;have p1 : (kk : Int) < (m : Int) := Int.ofNat_lt.2 lk;have p2 : (0 : Int) ≤ (kk : Int) := Int.natCast_nonneg kk;have HA := Lib.hid hA;have HA7 := Lib.hid hA7;have HR7 := Lib.hid hr7;have HC7 := Lib.hid hc7;have HSM := Lib.hid SM;have HW7 := Lib.hid hw;have BC := SM.cbox;have E7 := Lib.hid e7;have L7 := Lib.hid l7;have hokT := Lib.hid (zB1 (HG.out.val T HT1.out));clear hw;have hw := Below.refl w7.heap.size w7;clear hk1 ek e7 hA hA7 hr7 hc7 SM hml lk l7;obtain ⟨zA, r0, r1⟩ := (HA.out.ee hw).f;go_wp2_with fail;clear zA r0 r1;refine (cr _).mono ?_;rintro e w21 ⟨rfl, hb⟩;obtain ⟨BC, hw, -⟩ := X1 BC hw hb;clear hb;obtain ⟨t6, t0, t1, t2, t3, t4, t5⟩ := (HA7.out.ee hw).f;obtain ⟨zA, r0, r1⟩ := (HA.out.ee hw).f;obtain ⟨xC, yC, zC, vC⟩ := BC.f;go_wp2_with fail;clear t6 t0 t1 t2 t3 t4 t5 zA r0 r1;clear xC yC zC vC;refine zA1 fun W22 hW => ?_;obtain ⟨bkT, hbT⟩ : ∃ b, w21.heap.size = b := ⟨_, rfl⟩;rw [hbT];obtain ⟨lCT, fT, BT, BC, hw⟩ := M1 hW hbT BC hw;clear hW hbT;refine (cr7 _).mono ?_;rintro e w23 ⟨rfl, hb⟩;obtain ⟨BC, BT, hw, -⟩ := X2 BC BT hw hb;clear hb;clear cr cr7 p1 p2 hm0 hm0';by_cases h5 : (k7 : Int) < 5
      case pos =>
       have i1 : IntKind.i64.wrap ((k7 : Int) + 1) = (k7 : Int) + 1 := by rw [IntKind.wrap_i64]; omega
       have kc0 := fun W => zAm T (k7 : Int) W;have kc1 := fun W => zAm T ((k7 : Int) + 1) W;have HKA := Lib.hid (zEl hokT.out (k7 : Int));have HKB := Lib.hid (zEl hokT.out ((k7 : Int) + 1));generalize crn T (k7 : Int) = a at *
       generalize crn T ((k7 : Int) + 1) = b0 at *
       obtain ⟨xC, yC, zC, vC⟩ := BC.f;obtain ⟨xT, yT, zT, vT⟩ := BT.f;go_wp2_with fail;clear xC yC zC vC xT yT zT vT;have d0 : ∀ d os, Calls Tryz.prog 16 #[.agg #[.int .i64 T.A.x, .int .i64 T.A.y, .int .i64 T.B.x, .int .i64 T.B.y, .int .i64 T.C.x, .int .i64 T.C.y], .int .i64 (k7 : Int)] (grow (redrawn w23 d) os) fun e w' => e = .returned (.agg #[.int .i64 a.x, .int .i64 a.y]) ∧ Below (grow (redrawn w23 d) os).heap.size (grow (redrawn w23 d) os) w' := fun d os => kc0 _;have d1 : ∀ d os, Calls Tryz.prog 16 #[.agg #[.int .i64 T.A.x, .int .i64 T.A.y, .int .i64 T.B.x, .int .i64 T.B.y, .int .i64 T.C.x, .int .i64 T.C.y], .int .i64 ((k7 : Int) + 1)] (grow (redrawn w23 d) os) fun e w' => e = .returned (.agg #[.int .i64 b0.x, .int .i64 b0.y]) ∧ Below (grow (redrawn w23 d) os).heap.size (grow (redrawn w23 d) os) w' := fun d os => kc1 _;obtain ⟨xC, yC, zC, vC⟩ := BC.f;obtain ⟨xT, yT, zT, vT⟩ := BT.f;have g_CT := J2 BC.cells BT.cells;refine zAq 9 [⟨7, 17, 30, [.int .i64 0, .int .i64 0]⟩, ⟨8, 18, 30, [.int .i64 0, .int .i64 0]⟩] ?_ (by kernel_rfl) (by decide) (by decide) (by kernel_rfl) (by decide) (C := fun w' => ∃ p : Regrown, w' = grow (redrawn w23 p.d) p.os) rgB ?_
       ·simp only [List.forall_mem_cons];refine ⟨⟨_, rfl, rfl, rfl, rfl, fun ρ W => by simp [execOp, go_sem]⟩, ⟨_, rfl, rfl, rfl, rfl, fun ρ W => by simp [execOp, go_sem]⟩, fun _ h => (by cases h)⟩
       simp only [List.take_succ_cons, List.take_zero, List.map_cons, List.map_nil, dropIdx, List.contains_cons, List.contains_nil, Nat.reduceBEq, Nat.reduceAdd, Bool.or_false, Bool.or_true, Bool.or_self, Bool.false_eq_true, if_true, if_false];repeat (first | (refine zA0 (Eq.refl false) ?_; simp only [Act.put, sT2, sT1, sT0]) | (refine rWalk_step (fun K hK => ?_); go_simp; first | (refine hK _ ?_; clear hK K) | (apply Exists.intro; refine ⟨fun _ => ?_, hK _ ?_⟩; (first | with_reducible exact toExtD d0 _ _ | with_reducible exact toExtD d1 _ _); clear hK K)))
       refine rWalk_nil ?_;intro w24 β hL;simp only [putD, List.drop_succ_cons, List.drop_zero];have qA := hL.box ⟨7, 17, 30, [.int .i64 0, .int .i64 0]⟩ (by simp) (by simp);simp only at qA;have qB := hL.box ⟨8, 18, 30, [.int .i64 0, .int .i64 0]⟩ (by simp) (by simp);simp only at qB;have nAB := hL.apart 17 (by simp) 18 (by simp) (by decide);have nBA := hL.apart 18 (by simp) 17 (by simp) (by decide);have hb := hL.below;have lC := BC.lt;have lT := BT.lt;clear g_CT;clear xC yC zC vC xT yT zT vT;replace BC := BC.ee hb;replace BT := BT.ee hb;have hw0 := hw.size;replace hw := upB hw hb;clear hb hL;generalize β 17 = bkA at *
       generalize β 18 = bkB at *
       clear β;obtain ⟨fA, BA⟩ := qA;obtain ⟨fB, BB⟩ := qB;simp only [Act.put];obtain ⟨xA, yA, zA, vA⟩ := BA.f;obtain ⟨xB, yB, zB, vB⟩ := BB.f
       go_upto_region 28 with fail
       refine zA2 fun W25 hW => ?_;have CC : Box W25 (cb) [.int .i64 s, .int .i64 s, .pointer (some ⟨mb, 0, none⟩), .pointer (some ⟨db, 0, none⟩)] 39 := by rw [hW]; exact ((((BC.sn bkA 0 (.int .i64 a.x) (by first | assumption | omega)).sn bkA 1 (.int .i64 a.y) (by first | assumption | omega)).sn bkB 0 (.int .i64 b0.x) (by first | assumption | omega)).sn bkB 1 (.int .i64 b0.y) (by first | assumption | omega))
       have CT : Box W25 (bkT) [.int .i64 T.A.x, .int .i64 T.A.y, .int .i64 T.B.x, .int .i64 T.B.y, .int .i64 T.C.x, .int .i64 T.C.y] 43 := by rw [hW]; exact ((((BT.sn bkA 0 (.int .i64 a.x) (by first | assumption | omega)).sn bkA 1 (.int .i64 a.y) (by first | assumption | omega)).sn bkB 0 (.int .i64 b0.x) (by first | assumption | omega)).sn bkB 1 (.int .i64 b0.y) (by first | assumption | omega))
       have CA : Box W25 (bkA) [.int .i64 a.x, .int .i64 a.y] 30 := by rw [hW]; exact ((((BA.set 0 (.int .i64 a.x)).set 1 (.int .i64 a.y)).sn bkB 0 (.int .i64 b0.x) (by first | assumption | omega)).sn bkB 1 (.int .i64 b0.y) (by first | assumption | omega))
       have CB : Box W25 (bkB) [.int .i64 b0.x, .int .i64 b0.y] 30 := by rw [hW]; exact ((((BB.sn bkA 0 (.int .i64 a.x) (by first | assumption | omega)).sn bkA 1 (.int .i64 a.y) (by first | assumption | omega)).set 0 (.int .i64 b0.x)).set 1 (.int .i64 b0.y))
       replace hw : Below w7.heap.size w7 W25 := by have hl := hw.size; rw [hW]; go_grown
       clear xA yA zA vA xB yB zB vB;clear hW BC BT BA BB;have BC := CC;have BT := CT;have BA := CA;have BB := CB;clear CC CT CA CB;clear d0 d1 kc0 kc1;by_cases h2 : (2 : Int) < (k7 : Int)
       case pos =>
        focus
         obtain ⟨zA, r0, r1⟩ := (HA.out.ee hw).f;obtain ⟨xC, yC, zC, vC⟩ := BC.f;obtain ⟨xT, yT, zT, vT⟩ := BT.f;obtain ⟨xA, yA, zA, vA⟩ := BA.f;obtain ⟨xB, yB, zB, vB⟩ := BB.f;go_wp2_with fail;clear zA r0 r1;clear xC yC zC vC xT yT zT vT xA yA zA vA xB yB zB vB;refine (csp x.x _).mono ?_;rintro e w26 ⟨rfl, hb⟩;obtain ⟨BC, BT, BA, BB, hw, -⟩ := X4 BC BT BA BB hw hb;clear hb;have HKS := Lib.hid (show okP (spt s x.x) from spt_ok HS.out HS2.out x.x);generalize spt s x.x = q at *
         obtain ⟨xC, yC, zC, vC⟩ := BC.f;obtain ⟨xT, yT, zT, vT⟩ := BT.f;obtain ⟨xA, yA, zA, vA⟩ := BA.f;obtain ⟨xB, yB, zB, vB⟩ := BB.f;go_wp2_with fail;refine zA2 fun W27 hW => ?_;have CC : Box W27 (cb) [.int .i64 s, .int .i64 s, .pointer (some ⟨mb, 0, none⟩), .pointer (some ⟨db, 0, none⟩)] 39 := by rw [hW]; exact ((BC.sn bkB 0 (.int .i64 q.x) (by first | assumption | omega)).sn bkB 1 (.int .i64 q.y) (by first | assumption | omega))
         have CT : Box W27 (bkT) [.int .i64 T.A.x, .int .i64 T.A.y, .int .i64 T.B.x, .int .i64 T.B.y, .int .i64 T.C.x, .int .i64 T.C.y] 43 := by rw [hW]; exact ((BT.sn bkB 0 (.int .i64 q.x) (by first | assumption | omega)).sn bkB 1 (.int .i64 q.y) (by first | assumption | omega))
         have CA : Box W27 (bkA) [.int .i64 a.x, .int .i64 a.y] 30 := by rw [hW]; exact ((BA.sn bkB 0 (.int .i64 q.x) (by first | assumption | omega)).sn bkB 1 (.int .i64 q.y) (by first | assumption | omega))
         have CB : Box W27 (bkB) [.int .i64 q.x, .int .i64 q.y] 30 := by rw [hW]; exact ((BB.set 0 (.int .i64 q.x)).set 1 (.int .i64 q.y))
         replace hw : Below w7.heap.size w7 W27 := by have hl := hw.size; rw [hW]; go_grown
         clear xC yC zC vC xT yT zT vT xA yA zA vA xB yB zB vB;clear hW BC BT BA BB;have BC := CC;have BT := CT;have BA := CA;have BB := CB;clear CC CT CA CB;have SM := HSM.out.ee hw;have hwx := HW7.out.trans (hw.mono HW7.out.size);have hokab : okW (a, q) := ⟨HKA.out, HKS.out⟩;have HC := BC;have HA' := BA;have HB := BB;have hCl : ∀ x y, Ext x y → (fun w' => Box w' cb [.int .i64 s, .int .i64 s, .pointer (some ⟨mb, 0, none⟩), .pointer (some ⟨db, 0, none⟩)] 39 ∧ Box w' bkA [.int .i64 a.x, .int .i64 a.y] 30 ∧ Box w' bkB [.int .i64 q.x, .int .i64 q.y] 30) x → (fun w' => Box w' cb [.int .i64 s, .int .i64 s, .pointer (some ⟨mb, 0, none⟩), .pointer (some ⟨db, 0, none⟩)] 39 ∧ Box w' bkA [.int .i64 a.x, .int .i64 a.y] 30 ∧ Box w' bkB [.int .i64 q.x, .int .i64 q.y] 30) y := fun x y h1 h2 => ⟨h2.1.ee h1, h2.2.1.ee h1, h2.2.2.ee h1⟩;refine FT.wp_region_flowC 11 (.run 0 (.run 1 (.run 2 (.run 4 (.run 5 (.run 6 (.run 7 (.run 8 (.run 9 (.alt 3 (.alt 10 (.tail) .stop) .stop)))))))))) rfl (by kernel_rfl) (fun _ x _ _ _ h => by cases x <;> exact h) (C := fun w' => Box w' cb [.int .i64 s, .int .i64 s, .pointer (some ⟨mb, 0, none⟩), .pointer (some ⟨db, 0, none⟩)] 39 ∧ Box w' bkA [.int .i64 a.x, .int .i64 a.y] 30 ∧ Box w' bkB [.int .i64 q.x, .int .i64 q.y] 30) (fun _ h => ⟨HC.ee h, HA'.ee h, HB.ee h⟩) hCl ?_
         (refine FT.flow_run rfl (fun K hK => ?_); go_simp; first | (refine hK _ ?_; clear hK K) | (refine ⟨_, fun _ _ _ _ => rfl, hK _ ?_⟩; clear hK K))
         refine FT.flow_run rfl (fun K hK => ?_);go_simp;refine ⟨.agg #[.int .i64 a.x, .int .i64 a.y], fun wq hwq1 hwq2 hwq3 => ?_, hK _ ?_⟩
         ·obtain ⟨y0, y1, y2, y3⟩ := hwq2.f;go_simp
         clear hK K;refine FT.flow_run rfl (fun K hK => ?_);go_simp;refine ⟨.agg #[.int .i64 q.x, .int .i64 q.y], fun wq hwq1 hwq2 hwq3 => ?_, hK _ ?_⟩
         ·obtain ⟨y0, y1, y2, y3⟩ := hwq3.f;go_simp
         clear hK K
         (refine FT.flow_run rfl (fun K hK => ?_); go_simp; first | (refine hK _ ?_; clear hK K) | (refine ⟨_, fun _ _ _ _ => rfl, hK _ ?_⟩; clear hK K))
         (refine FT.flow_run rfl (fun K hK => ?_); go_simp; first | (refine hK _ ?_; clear hK K) | (refine ⟨_, fun _ _ _ _ => rfl, hK _ ?_⟩; clear hK K))
         (refine FT.flow_run rfl (fun K hK => ?_); go_simp; first | (refine hK _ ?_; clear hK K) | (refine ⟨_, fun _ _ _ _ => rfl, hK _ ?_⟩; clear hK K))
         refine FT.flow_run rfl (fun K hK => ?_);go_simp;refine ⟨.pointer (some ⟨mb, 0, none⟩), fun wq hwq1 hwq2 hwq3 => ?_, hK _ ?_⟩
         ·obtain ⟨y0, y1, y2, y3⟩ := hwq1.f;go_simp
         clear hK K;refine FT.flow_run rfl (fun K hK => ?_);go_simp;refine ⟨.agg #[.int .i64 a.x, .int .i64 a.y], fun wq hwq1 hwq2 hwq3 => ?_, hK _ ?_⟩
         ·obtain ⟨y0, y1, y2, y3⟩ := hwq2.f;go_simp
         clear hK K;refine FT.flow_run rfl (fun K hK => ?_);go_simp;refine ⟨.agg #[.int .i64 q.x, .int .i64 q.y], fun wq hwq1 hwq2 hwq3 => ?_, hK _ ?_⟩
         ·obtain ⟨y0, y1, y2, y3⟩ := hwq3.f;go_simp
         clear hK K;refine FT.flow_at hCl rfl trivial (fun wc hwc K hK => ?_);go_simp;refine (zIh m2 b2 E L HG.out a q hokab wc (SM.pbox.ee hwc) (SM.pmap.ee hwc)).mono ?_;rintro e wd ⟨r, E3, L3, rfl, hg, H3, G3, F3⟩;obtain ⟨er, G4⟩ := zJw HG.out HP.out G3 F3;have SM1 := SM.ee hwc;have SM2 := SM1.own hg H3;replace HC := (HC.ee hwc).turn SM1.pmap hg;replace HA' := (HA'.ee hwc).turn SM1.pmap hg;replace HB := (HB.ee hwc).turn SM1.pmap hg;replace hwx := zAi ((upB hwx hwc)) hg ((upB hwx hwc)).size HB2.out;have HL3 := Lib.hid (mf_l F3.len HL.out);have HG3 := Lib.hid G3;have HG4 := Lib.hid G4;clear SM SM1 hwc hg H3 G3 G4 F3;go_simp;refine hK _ _ ⟨HC, HA', HB⟩ ?_;clear hK K;refine FT.flow_at hCl rfl trivial (fun wc hwc K hK => ?_);go_simp;have cd := zI8 mb rb D L (HG.out.same HP.out) a q hokab wc (SM2.mbox.ee hwc) (SM2.mmap.ee hwc);rw [er] at cd;refine cd.mono ?_;rintro e wd ⟨rfl, hg, H4⟩;generalize (flipD D a q).2 = D4 at *
         have SM3 := (SM2.ee hwc).docs hg H4;replace HC := (HC.ee hwc).turn (SM2.mmap.ee hwc) hg;replace HA' := (HA'.ee hwc).turn (SM2.mmap.ee hwc) hg;replace HB := (HB.ee hwc).turn (SM2.mmap.ee hwc) hg;replace hwx := zAi ((upB hwx hwc)) hg ((upB hwx hwc)).size HRB.out;clear SM2 hwc hg H4 cd er;go_simp;refine hK _ _ ⟨HC, HA', HB⟩ ?_;clear hK K;intro wz hwz;simp only [dP1, dP0];replace SM3 := SM3.ee hwz;replace hwx := upB hwx hwz;clear hwz hCl HC HA' HB hw;have hP4 := Lib.hid (show D4.Perm E3 from HG4.out.perm.trans HG3.out.perm.symm);have csh := fun W B H B2 H2 => zCc m2 b2 rb mb E3 L3 HG3 (fun T h => zB1 (HG3.out.val T h)) (mf_t HL3.out HLT.out hna.out) W B H B2 H2;obtain ⟨xC, yC, zC, vC⟩ := SM3.cbox.f;go_wp2_with fail;clear xC yC zC vC;refine (csh _ SM3.pbox SM3.pmap SM3.mbox (SM3.mmap.perm hP4.out)).mono ?_;rintro e wy ⟨rfl, hb⟩;replace SM3 := SM3.ee hb;replace hwx := upB hwx hb;clear hb csh;go_wp2;rw [← ea]
         go_roundw
         case rel => exact ⟨k + 1, rb, E3, D4, L3, mf_n HLT.out hna.out, HLT.out, SM3, HG3, hP4, HL3, HRB, hwx⟩
         case measure => exact zFe HLT.out hna.out
       case neg =>
        focus
         obtain ⟨xC, yC, zC, vC⟩ := BC.f;obtain ⟨xT, yT, zT, vT⟩ := BT.f;obtain ⟨xA, yA, zA, vA⟩ := BA.f;obtain ⟨xB, yB, zB, vB⟩ := BB.f;go_wp2_with fail;clear xC yC zC vC xT yT zT vT xA yA zA vA xB yB zB vB;have SM := HSM.out.ee hw;have hwx := HW7.out.trans (hw.mono HW7.out.size);have hokab : okW (a, b0) := ⟨HKA.out, HKB.out⟩;have HC := BC;have HA' := BA;have HB := BB;have hCl : ∀ x y, Ext x y → (fun w' => Box w' cb [.int .i64 s, .int .i64 s, .pointer (some ⟨mb, 0, none⟩), .pointer (some ⟨db, 0, none⟩)] 39 ∧ Box w' bkA [.int .i64 a.x, .int .i64 a.y] 30 ∧ Box w' bkB [.int .i64 b0.x, .int .i64 b0.y] 30) x → (fun w' => Box w' cb [.int .i64 s, .int .i64 s, .pointer (some ⟨mb, 0, none⟩), .pointer (some ⟨db, 0, none⟩)] 39 ∧ Box w' bkA [.int .i64 a.x, .int .i64 a.y] 30 ∧ Box w' bkB [.int .i64 b0.x, .int .i64 b0.y] 30) y := fun x y h1 h2 => ⟨h2.1.ee h1, h2.2.1.ee h1, h2.2.2.ee h1⟩;refine FT.wp_region_flowC 11 (.run 0 (.run 1 (.run 2 (.run 4 (.run 5 (.run 6 (.run 7 (.run 8 (.run 9 (.alt 3 (.alt 10 (.tail) .stop) .stop)))))))))) rfl (by kernel_rfl) (fun _ x _ _ _ h => by cases x <;> exact h) (C := fun w' => Box w' cb [.int .i64 s, .int .i64 s, .pointer (some ⟨mb, 0, none⟩), .pointer (some ⟨db, 0, none⟩)] 39 ∧ Box w' bkA [.int .i64 a.x, .int .i64 a.y] 30 ∧ Box w' bkB [.int .i64 b0.x, .int .i64 b0.y] 30) (fun _ h => ⟨HC.ee h, HA'.ee h, HB.ee h⟩) hCl ?_
         (refine FT.flow_run rfl (fun K hK => ?_); go_simp; first | (refine hK _ ?_; clear hK K) | (refine ⟨_, fun _ _ _ _ => rfl, hK _ ?_⟩; clear hK K))
         refine FT.flow_run rfl (fun K hK => ?_);go_simp;refine ⟨.agg #[.int .i64 a.x, .int .i64 a.y], fun wq hwq1 hwq2 hwq3 => ?_, hK _ ?_⟩
         ·obtain ⟨y0, y1, y2, y3⟩ := hwq2.f;go_simp
         clear hK K;refine FT.flow_run rfl (fun K hK => ?_);go_simp;refine ⟨.agg #[.int .i64 b0.x, .int .i64 b0.y], fun wq hwq1 hwq2 hwq3 => ?_, hK _ ?_⟩
         ·obtain ⟨y0, y1, y2, y3⟩ := hwq3.f;go_simp
         clear hK K
         (refine FT.flow_run rfl (fun K hK => ?_); go_simp; first | (refine hK _ ?_; clear hK K) | (refine ⟨_, fun _ _ _ _ => rfl, hK _ ?_⟩; clear hK K))
         (refine FT.flow_run rfl (fun K hK => ?_); go_simp; first | (refine hK _ ?_; clear hK K) | (refine ⟨_, fun _ _ _ _ => rfl, hK _ ?_⟩; clear hK K))
         (refine FT.flow_run rfl (fun K hK => ?_); go_simp; first | (refine hK _ ?_; clear hK K) | (refine ⟨_, fun _ _ _ _ => rfl, hK _ ?_⟩; clear hK K))
         refine FT.flow_run rfl (fun K hK => ?_);go_simp;refine ⟨.pointer (some ⟨mb, 0, none⟩), fun wq hwq1 hwq2 hwq3 => ?_, hK _ ?_⟩
         ·obtain ⟨y0, y1, y2, y3⟩ := hwq1.f;go_simp
         clear hK K;refine FT.flow_run rfl (fun K hK => ?_);go_simp;refine ⟨.agg #[.int .i64 a.x, .int .i64 a.y], fun wq hwq1 hwq2 hwq3 => ?_, hK _ ?_⟩
         ·obtain ⟨y0, y1, y2, y3⟩ := hwq2.f;go_simp
         clear hK K;refine FT.flow_run rfl (fun K hK => ?_);go_simp;refine ⟨.agg #[.int .i64 b0.x, .int .i64 b0.y], fun wq hwq1 hwq2 hwq3 => ?_, hK _ ?_⟩
         ·obtain ⟨y0, y1, y2, y3⟩ := hwq3.f;go_simp
         clear hK K;refine FT.flow_at hCl rfl trivial (fun wc hwc K hK => ?_);go_simp;refine (zIh m2 b2 E L HG.out a b0 hokab wc (SM.pbox.ee hwc) (SM.pmap.ee hwc)).mono ?_;rintro e wd ⟨r, E3, L3, rfl, hg, H3, G3, F3⟩;obtain ⟨er, G4⟩ := zJw HG.out HP.out G3 F3;have SM1 := SM.ee hwc;have SM2 := SM1.own hg H3;replace HC := (HC.ee hwc).turn SM1.pmap hg;replace HA' := (HA'.ee hwc).turn SM1.pmap hg;replace HB := (HB.ee hwc).turn SM1.pmap hg;replace hwx := zAi ((upB hwx hwc)) hg ((upB hwx hwc)).size HB2.out;have HL3 := Lib.hid (mf_l F3.len HL.out);have HG3 := Lib.hid G3;have HG4 := Lib.hid G4;clear SM SM1 hwc hg H3 G3 G4 F3;go_simp;refine hK _ _ ⟨HC, HA', HB⟩ ?_;clear hK K;refine FT.flow_at hCl rfl trivial (fun wc hwc K hK => ?_);go_simp;have cd := zI8 mb rb D L (HG.out.same HP.out) a b0 hokab wc (SM2.mbox.ee hwc) (SM2.mmap.ee hwc);rw [er] at cd;refine cd.mono ?_;rintro e wd ⟨rfl, hg, H4⟩;generalize (flipD D a b0).2 = D4 at *
         have SM3 := (SM2.ee hwc).docs hg H4;replace HC := (HC.ee hwc).turn (SM2.mmap.ee hwc) hg;replace HA' := (HA'.ee hwc).turn (SM2.mmap.ee hwc) hg;replace HB := (HB.ee hwc).turn (SM2.mmap.ee hwc) hg;replace hwx := zAi ((upB hwx hwc)) hg ((upB hwx hwc)).size HRB.out;clear SM2 hwc hg H4 cd er;go_simp;refine hK _ _ ⟨HC, HA', HB⟩ ?_;clear hK K;intro wz hwz;simp only [dP1, dP0];replace SM3 := SM3.ee hwz;replace hwx := upB hwx hwz;clear hwz hCl HC HA' HB hw;have hP4 := Lib.hid (show D4.Perm E3 from HG4.out.perm.trans HG3.out.perm.symm);have csh := fun W B H B2 H2 => zCc m2 b2 rb mb E3 L3 HG3 (fun T h => zB1 (HG3.out.val T h)) (mf_t HL3.out HLT.out hna.out) W B H B2 H2;obtain ⟨xC, yC, zC, vC⟩ := SM3.cbox.f;go_wp2_with fail;clear xC yC zC vC;refine (csh _ SM3.pbox SM3.pmap SM3.mbox (SM3.mmap.perm hP4.out)).mono ?_;rintro e wy ⟨rfl, hb⟩;replace SM3 := SM3.ee hb;replace hwx := upB hwx hb;clear hb csh;go_wp2;rw [← ea]
         go_roundw
         case rel => exact ⟨k + 1, rb, E3, D4, L3, mf_n HLT.out hna.out, HLT.out, SM3, HG3, hP4, HL3, HRB, hwx⟩
         case measure => exact zFe HLT.out hna.out
      case neg =>
       by_cases h6 : k7 = 5
       case pos =>
        focus
         subst h6;clear h5;obtain ⟨zA, r0, r1⟩ := (HA.out.ee hw).f;obtain ⟨xC, yC, zC, vC⟩ := BC.f;obtain ⟨xT, yT, zT, vT⟩ := BT.f;go_wp2_with fail;clear zA r0 r1;clear xC yC zC vC xT yT zT vT;refine (csp _ _).mono ?_;rintro e w24 ⟨rfl, hb⟩;obtain ⟨BC, BT, hw, -⟩ := X2 BC BT hw hb;clear hb;generalize spt s _ = q at *
         obtain ⟨xC, yC, zC, vC⟩ := BC.f;obtain ⟨xT, yT, zT, vT⟩ := BT.f;go_wp2_with fail;clear xC yC zC vC xT yT zT vT;refine zA1 fun W25 hW => ?_;obtain ⟨bkP, hbP⟩ : ∃ b, w24.heap.size = b := ⟨_, rfl⟩;rw [hbP];obtain ⟨lCP, lTP, fP, BP, BC, BT, hw⟩ := M2 hW hbP BC BT hw;clear hW hbP;refine (zJg T q _).mono ?_;rintro e w26 ⟨a9, c9, rfl, hc9, hr9, hb⟩;obtain ⟨BC, BT, BP, hw, -⟩ := X3 BC BT BP hw hb;clear hb;have hokQ : ∀ U ∈ srt cmpT (cutR T q), okT U := fun U hU => mf_cut ((zAo _).mem_iff.1 hU);have hn93 : (srt cmpT (cutR T q)).length ≤ 10 := by rw [(zAo _).length_eq]; exact mf_cutl T q
         generalize srt cmpT (cutR T q) = Q at *
         obtain ⟨n9, hn9⟩ : ∃ z, Q.length = z := ⟨_, rfl⟩;rw [hn9];rw [hn9] at hc9 hn93;have HN9 := Lib.hid hn9;clear hn9;have hokO : ∀ U ∈ [T], okT U := fun U hU => by rw [List.mem_singleton] at hU; rw [hU]; exact hokT.out
         obtain ⟨xC, yC, zC, vC⟩ := BC.f;obtain ⟨xT, yT, zT, vT⟩ := BT.f;obtain ⟨xP, yP, zP, vP⟩ := BP.f;go_wp2_with fail;clear xC yC zC vC xT yT zT vT xP yP zP vP;have SM := HSM.out.ee hw;have hwx := HW7.out.trans (hw.mono HW7.out.size);have HCB := BC;have HBT := BT;have hCl : ∀ x y, Ext x y → (fun w' => Box w' cb [.int .i64 s, .int .i64 s, .pointer (some ⟨mb, 0, none⟩), .pointer (some ⟨db, 0, none⟩)] 39 ∧ Box w' bkT [.int .i64 T.A.x, .int .i64 T.A.y, .int .i64 T.B.x, .int .i64 T.B.y, .int .i64 T.C.x, .int .i64 T.C.y] 43) x → (fun w' => Box w' cb [.int .i64 s, .int .i64 s, .pointer (some ⟨mb, 0, none⟩), .pointer (some ⟨db, 0, none⟩)] 39 ∧ Box w' bkT [.int .i64 T.A.x, .int .i64 T.A.y, .int .i64 T.B.x, .int .i64 T.B.y, .int .i64 T.C.x, .int .i64 T.C.y] 43) y := fun x y h1 h2 => ⟨h2.1.ee h1, h2.2.ee h1⟩;refine FT.wp_region_flowC 13 (.run 0 (.run 1 (.run 3 (.run 5 (.run 6 (.run 7 (.run 8 (.run 9 (.run 11 (.alt 2 (.alt 4 (.alt 10 (.alt 12 (.tail) (.stop)) (.stop)) (.alt 10 (.alt 4 (.alt 12 (.tail) (.stop)) (.stop)) (.stop))) (.alt 10 (.alt 2 (.alt 4 (.alt 12 (.tail) (.stop)) (.stop)) (.stop)) (.stop)))))))))))) rfl (by kernel_rfl) (fun _ x _ _ _ h => by cases x <;> exact h) (C := fun w' => Box w' cb [.int .i64 s, .int .i64 s, .pointer (some ⟨mb, 0, none⟩), .pointer (some ⟨db, 0, none⟩)] 39 ∧ Box w' bkT [.int .i64 T.A.x, .int .i64 T.A.y, .int .i64 T.B.x, .int .i64 T.B.y, .int .i64 T.C.x, .int .i64 T.C.y] 43) (fun _ h => ⟨HCB.ee h, HBT.ee h⟩) hCl ?_
         (refine FT.flow_run rfl (fun K hK => ?_); go_simp; first | (refine hK _ ?_; clear hK K) | (refine ⟨_, fun _ _ _ => rfl, hK _ ?_⟩; clear hK K))
         refine FT.flow_run rfl (fun K hK => ?_);go_simp;refine ⟨.agg #[.int .i64 T.A.x, .int .i64 T.A.y, .int .i64 T.B.x, .int .i64 T.B.y, .int .i64 T.C.x, .int .i64 T.C.y], fun wq hwq1 hwq2 => ?_, hK _ ?_⟩
         ·obtain ⟨y0, y1, y2, y3⟩ := hwq2.f;go_simp
         clear hK K
         (refine FT.flow_run rfl (fun K hK => ?_); go_simp; first | (refine hK _ ?_; clear hK K) | (refine ⟨_, fun _ _ _ => rfl, hK _ ?_⟩; clear hK K))
         (refine FT.flow_run rfl (fun K hK => ?_); go_simp; first | (refine hK _ ?_; clear hK K) | (refine ⟨_, fun _ _ _ => rfl, hK _ ?_⟩; clear hK K))
         (refine FT.flow_run rfl (fun K hK => ?_); go_simp; first | (refine hK _ ?_; clear hK K) | (refine ⟨_, fun _ _ _ => rfl, hK _ ?_⟩; clear hK K))
         (refine FT.flow_run rfl (fun K hK => ?_); go_simp; first | (refine hK _ ?_; clear hK K) | (refine ⟨_, fun _ _ _ => rfl, hK _ ?_⟩; clear hK K))
         refine FT.flow_run rfl (fun K hK => ?_);go_simp;refine ⟨.pointer (some ⟨mb, 0, none⟩), fun wq hwq1 hwq2 => ?_, hK _ ?_⟩
         ·obtain ⟨y0, y1, y2, y3⟩ := hwq1.f;go_simp
         clear hK K;refine FT.flow_run rfl (fun K hK => ?_);go_simp;refine ⟨.agg #[.int .i64 T.A.x, .int .i64 T.A.y, .int .i64 T.B.x, .int .i64 T.B.y, .int .i64 T.C.x, .int .i64 T.C.y], fun wq hwq1 hwq2 => ?_, hK _ ?_⟩
         ·obtain ⟨y0, y1, y2, y3⟩ := hwq2.f;go_simp
         clear hK K
         (refine FT.flow_run rfl (fun K hK => ?_); go_simp; first | (refine hK _ ?_; clear hK K) | (refine ⟨_, fun _ _ _ => rfl, hK _ ?_⟩; clear hK K))
         refine FT.flow_at hCl rfl ?other (fun wc hwc K hK => ?_)
         case other =>
          refine FT.flow_at hCl rfl trivial (fun wc hwc K hK => ?_);go_simp;have hba := hwc.alloc hwc.size (.cells #[.int .i64 T.A.x, .int .i64 T.A.y, .int .i64 T.B.x, .int .i64 T.B.y, .int .i64 T.C.x, .int .i64 T.C.y] 43);obtain ⟨bz10, hbz⟩ : ∃ b, wc.heap.size = b := ⟨_, rfl⟩;have BZ10 : Box (wc.alloc (.cells #[.int .i64 T.A.x, .int .i64 T.A.y, .int .i64 T.B.x, .int .i64 T.B.y, .int .i64 T.C.x, .int .i64 T.C.y] 43)) bz10 [.int .i64 T.A.x, .int .i64 T.A.y, .int .i64 T.B.x, .int .i64 T.B.y, .int .i64 T.C.x, .int .i64 T.C.y] 43 := by rw [← hbz]; exact Box.new rfl
          refine hK _ _ ⟨HCB.ee hba, HBT.ee hba⟩ ?_;clear hK K;rw [hbz];generalize wc.alloc (.cells #[.int .i64 T.A.x, .int .i64 T.A.y, .int .i64 T.B.x, .int .i64 T.B.y, .int .i64 T.C.x, .int .i64 T.C.y] 43) = wb at *
          replace SM := SM.ee hba;replace HCB := HCB.ee hba;replace HBT := HBT.ee hba;replace hr9 := hr9.ee hba;replace hwx := upB hwx hba;clear hba hwc hbz;refine FT.flow_at hCl rfl trivial (fun wc hwc K hK => ?_);go_simp;have hba := hwc.alloc hwc.size (.cells #[.int .i64 T.A.x, .int .i64 T.A.y, .int .i64 T.B.x, .int .i64 T.B.y, .int .i64 T.C.x, .int .i64 T.C.y] 43);obtain ⟨bz2, hbz⟩ : ∃ b, wc.heap.size = b := ⟨_, rfl⟩;have BZ2 : Box (wc.alloc (.cells #[.int .i64 T.A.x, .int .i64 T.A.y, .int .i64 T.B.x, .int .i64 T.B.y, .int .i64 T.C.x, .int .i64 T.C.y] 43)) bz2 [.int .i64 T.A.x, .int .i64 T.A.y, .int .i64 T.B.x, .int .i64 T.B.y, .int .i64 T.C.x, .int .i64 T.C.y] 43 := by rw [← hbz]; exact Box.new rfl
          refine hK _ _ ⟨HCB.ee hba, HBT.ee hba⟩ ?_;clear hK K;rw [hbz];generalize wc.alloc (.cells #[.int .i64 T.A.x, .int .i64 T.A.y, .int .i64 T.B.x, .int .i64 T.B.y, .int .i64 T.C.x, .int .i64 T.C.y] 43) = wb at *
          replace SM := SM.ee hba;replace HCB := HCB.ee hba;replace HBT := HBT.ee hba;replace hr9 := hr9.ee hba;replace hwx := upB hwx hba;replace BZ10 := BZ10.ee hba;clear hba hwc hbz;refine FT.flow_at hCl rfl trivial (fun wc hwc K hK => ?_);go_simp;refine (zBl m2 b2 E L HG.out (some ⟨bz2, 0, none⟩) a9 1 c9 1 n9 [T] Q rfl (by decide) (by decide) hokO HN9.out hc9 (mf_m hn93) hokQ wc (SM.pbox.ee hwc) (SM.pmap.ee hwc) (zAt (by simpa [cT] using BZ2.ee hwc)) (hr9.ee hwc)).mono ?_;rintro e wd ⟨r, E3, L3, rfl, hg, H3, G3, R3⟩;have SM1 := SM.ee hwc;have SM2 := SM1.own hg H3;replace hr9 := (hr9.ee hwc).turn cT_ne SM1.pmap hg;replace HCB := (HCB.ee hwc).turn SM1.pmap hg;replace HBT := (HBT.ee hwc).turn SM1.pmap hg;replace BZ10 := (BZ10.ee hwc).turn SM1.pmap hg;replace BZ2 := (BZ2.ee hwc).turn SM1.pmap hg;replace hwx := zAi ((upB hwx hwc)) hg ((upB hwx hwc)).size HB2.out;have HL3 := Lib.hid (show L3.length ≤ 32 + 10 * (k + 1) from mf_l2 R3.len HL.out (by rw [HN9.out]; exact hn93));have HG3 := Lib.hid G3;clear SM SM1 hwc hg H3 G3;have SM := SM2;clear SM2;go_simp;refine hK _ _ ⟨HCB, HBT⟩ ?_;clear hK K;refine FT.flow_at hCl rfl trivial (fun wc hwc K hK => ?_);go_simp;refine (zDq mb rb D (some ⟨bz10, 0, none⟩) a9 1 c9 1 n9 [T] Q (Lib.hid rfl) (by decide) hokO HN9 (mf_m hn93) hokQ (HG.out.same HP.out).nodup wc (SM.mbox.ee hwc) (SM.mmap.ee hwc) (zAt (by simpa [cT] using BZ10.ee hwc)) (hr9.ee hwc)).mono ?_;rintro e wd hpost;have HBT2 := HBT.ee hwc;have hTm := mf_tm HBT2 (SM.mbox.ee hwc);obtain ⟨rfl, rb', D4, SM3, G4, hrb, hbel, hkp⟩ := zF9 (SM.ee hwc) HG.out HP.out R3 rfl HN9.out hpost;have hwx1 := (upB hwx hwc);have HRB2 := Lib.hid (show w.heap.size ≤ rb' from mf_rb hrb HRB.out hwx1.size);replace hwx := hbel w hwx1 hb3.out;replace HBT := hkp _ _ _ HBT2 hTm;have HG4 := Lib.hid G4;replace HCB := SM3.cbox;clear hwc hpost G4 hrb hbel hwx1 R3 hr9 SM HBT2 hTm hkp BZ10 BZ2;have SM := SM3;clear SM3;go_simp;refine hK _ _ ⟨HCB, HBT⟩ ?_;clear hK K;intro wz hwz;simp only [dP1, dP0];replace SM := SM.ee hwz;replace hwx := upB hwx hwz;clear hwz hCl hw HCB HBT;have SM3 := SM;clear SM;have hP4 := Lib.hid (show D4.Perm E3 from HG4.out.perm.trans HG3.out.perm.symm);have csh := fun W B H B2 H2 => zCc m2 b2 rb' mb E3 L3 HG3 (fun T h => zB1 (HG3.out.val T h)) (mf_t HL3.out HLT.out hna.out) W B H B2 H2;obtain ⟨xC, yC, zC, vC⟩ := SM3.cbox.f;go_wp2_with fail;clear xC yC zC vC;refine (csh _ SM3.pbox SM3.pmap SM3.mbox (SM3.mmap.perm hP4.out)).mono ?_;rintro e wy ⟨rfl, hb⟩;replace SM3 := SM3.ee hb;replace hwx := upB hwx hb;clear hb csh;go_wp2;rw [← ea]
          go_roundw
          case rel => exact ⟨k + 1, rb', E3, D4, L3, mf_n HLT.out hna.out, HLT.out, SM3, HG3, hP4, HL3, HRB2, hwx⟩
          case measure => exact zFe HLT.out hna.out
         go_simp;have hba := hwc.alloc hwc.size (.cells #[.int .i64 T.A.x, .int .i64 T.A.y, .int .i64 T.B.x, .int .i64 T.B.y, .int .i64 T.C.x, .int .i64 T.C.y] 43);obtain ⟨bz2, hbz⟩ : ∃ b, wc.heap.size = b := ⟨_, rfl⟩;have BZ2 : Box (wc.alloc (.cells #[.int .i64 T.A.x, .int .i64 T.A.y, .int .i64 T.B.x, .int .i64 T.B.y, .int .i64 T.C.x, .int .i64 T.C.y] 43)) bz2 [.int .i64 T.A.x, .int .i64 T.A.y, .int .i64 T.B.x, .int .i64 T.B.y, .int .i64 T.C.x, .int .i64 T.C.y] 43 := by rw [← hbz]; exact Box.new rfl
         refine hK _ _ ⟨HCB.ee hba, HBT.ee hba⟩ ?_;clear hK K;rw [hbz];generalize wc.alloc (.cells #[.int .i64 T.A.x, .int .i64 T.A.y, .int .i64 T.B.x, .int .i64 T.B.y, .int .i64 T.C.x, .int .i64 T.C.y] 43) = wb at *
         replace SM := SM.ee hba;replace HCB := HCB.ee hba;replace HBT := HBT.ee hba;replace hr9 := hr9.ee hba;replace hwx := upB hwx hba;clear hba hwc hbz;refine FT.flow_at hCl rfl ?other (fun wc hwc K hK => ?_)
         case other =>
          refine FT.flow_at hCl rfl trivial (fun wc hwc K hK => ?_);go_simp;have hba := hwc.alloc hwc.size (.cells #[.int .i64 T.A.x, .int .i64 T.A.y, .int .i64 T.B.x, .int .i64 T.B.y, .int .i64 T.C.x, .int .i64 T.C.y] 43);obtain ⟨bz10, hbz⟩ : ∃ b, wc.heap.size = b := ⟨_, rfl⟩;have BZ10 : Box (wc.alloc (.cells #[.int .i64 T.A.x, .int .i64 T.A.y, .int .i64 T.B.x, .int .i64 T.B.y, .int .i64 T.C.x, .int .i64 T.C.y] 43)) bz10 [.int .i64 T.A.x, .int .i64 T.A.y, .int .i64 T.B.x, .int .i64 T.B.y, .int .i64 T.C.x, .int .i64 T.C.y] 43 := by rw [← hbz]; exact Box.new rfl
          refine hK _ _ ⟨HCB.ee hba, HBT.ee hba⟩ ?_;clear hK K;rw [hbz];generalize wc.alloc (.cells #[.int .i64 T.A.x, .int .i64 T.A.y, .int .i64 T.B.x, .int .i64 T.B.y, .int .i64 T.C.x, .int .i64 T.C.y] 43) = wb at *
          replace SM := SM.ee hba;replace HCB := HCB.ee hba;replace HBT := HBT.ee hba;replace hr9 := hr9.ee hba;replace hwx := upB hwx hba;replace BZ2 := BZ2.ee hba;clear hba hwc hbz;refine FT.flow_at hCl rfl trivial (fun wc hwc K hK => ?_);go_simp;refine (zBl m2 b2 E L HG.out (some ⟨bz2, 0, none⟩) a9 1 c9 1 n9 [T] Q rfl (by decide) (by decide) hokO HN9.out hc9 (mf_m hn93) hokQ wc (SM.pbox.ee hwc) (SM.pmap.ee hwc) (zAt (by simpa [cT] using BZ2.ee hwc)) (hr9.ee hwc)).mono ?_;rintro e wd ⟨r, E3, L3, rfl, hg, H3, G3, R3⟩;have SM1 := SM.ee hwc;have SM2 := SM1.own hg H3;replace hr9 := (hr9.ee hwc).turn cT_ne SM1.pmap hg;replace HCB := (HCB.ee hwc).turn SM1.pmap hg;replace HBT := (HBT.ee hwc).turn SM1.pmap hg;replace BZ2 := (BZ2.ee hwc).turn SM1.pmap hg;replace BZ10 := (BZ10.ee hwc).turn SM1.pmap hg;replace hwx := zAi ((upB hwx hwc)) hg ((upB hwx hwc)).size HB2.out;have HL3 := Lib.hid (show L3.length ≤ 32 + 10 * (k + 1) from mf_l2 R3.len HL.out (by rw [HN9.out]; exact hn93));have HG3 := Lib.hid G3;clear SM SM1 hwc hg H3 G3;have SM := SM2;clear SM2;go_simp;refine hK _ _ ⟨HCB, HBT⟩ ?_;clear hK K;refine FT.flow_at hCl rfl trivial (fun wc hwc K hK => ?_);go_simp;refine (zDq mb rb D (some ⟨bz10, 0, none⟩) a9 1 c9 1 n9 [T] Q (Lib.hid rfl) (by decide) hokO HN9 (mf_m hn93) hokQ (HG.out.same HP.out).nodup wc (SM.mbox.ee hwc) (SM.mmap.ee hwc) (zAt (by simpa [cT] using BZ10.ee hwc)) (hr9.ee hwc)).mono ?_;rintro e wd hpost;have HBT2 := HBT.ee hwc;have hTm := mf_tm HBT2 (SM.mbox.ee hwc);obtain ⟨rfl, rb', D4, SM3, G4, hrb, hbel, hkp⟩ := zF9 (SM.ee hwc) HG.out HP.out R3 rfl HN9.out hpost;have hwx1 := (upB hwx hwc);have HRB2 := Lib.hid (show w.heap.size ≤ rb' from mf_rb hrb HRB.out hwx1.size);replace hwx := hbel w hwx1 hb3.out;replace HBT := hkp _ _ _ HBT2 hTm;have HG4 := Lib.hid G4;replace HCB := SM3.cbox;clear hwc hpost G4 hrb hbel hwx1 R3 hr9 SM HBT2 hTm hkp BZ2 BZ10;have SM := SM3;clear SM3;go_simp;refine hK _ _ ⟨HCB, HBT⟩ ?_;clear hK K;intro wz hwz;simp only [dP1, dP0];replace SM := SM.ee hwz;replace hwx := upB hwx hwz;clear hwz hCl hw HCB HBT;have SM3 := SM;clear SM;have hP4 := Lib.hid (show D4.Perm E3 from HG4.out.perm.trans HG3.out.perm.symm);have csh := fun W B H B2 H2 => zCc m2 b2 rb' mb E3 L3 HG3 (fun T h => zB1 (HG3.out.val T h)) (mf_t HL3.out HLT.out hna.out) W B H B2 H2;obtain ⟨xC, yC, zC, vC⟩ := SM3.cbox.f;go_wp2_with fail;clear xC yC zC vC;refine (csh _ SM3.pbox SM3.pmap SM3.mbox (SM3.mmap.perm hP4.out)).mono ?_;rintro e wy ⟨rfl, hb⟩;replace SM3 := SM3.ee hb;replace hwx := upB hwx hb;clear hb csh;go_wp2;rw [← ea]
          go_roundw
          case rel => exact ⟨k + 1, rb', E3, D4, L3, mf_n HLT.out hna.out, HLT.out, SM3, HG3, hP4, HL3, HRB2, hwx⟩
          case measure => exact zFe HLT.out hna.out
         go_simp;refine (zBl m2 b2 E L HG.out (some ⟨bz2, 0, none⟩) a9 1 c9 1 n9 [T] Q rfl (by decide) (by decide) hokO HN9.out hc9 (mf_m hn93) hokQ wc (SM.pbox.ee hwc) (SM.pmap.ee hwc) (zAt (by simpa [cT] using BZ2.ee hwc)) (hr9.ee hwc)).mono ?_;rintro e wd ⟨r, E3, L3, rfl, hg, H3, G3, R3⟩;have SM1 := SM.ee hwc;have SM2 := SM1.own hg H3;replace hr9 := (hr9.ee hwc).turn cT_ne SM1.pmap hg;replace HCB := (HCB.ee hwc).turn SM1.pmap hg;replace HBT := (HBT.ee hwc).turn SM1.pmap hg;replace BZ2 := (BZ2.ee hwc).turn SM1.pmap hg;replace hwx := zAi ((upB hwx hwc)) hg ((upB hwx hwc)).size HB2.out;have HL3 := Lib.hid (show L3.length ≤ 32 + 10 * (k + 1) from mf_l2 R3.len HL.out (by rw [HN9.out]; exact hn93));have HG3 := Lib.hid G3;clear SM SM1 hwc hg H3 G3;have SM := SM2;clear SM2;go_simp;refine hK _ _ ⟨HCB, HBT⟩ ?_;clear hK K;refine FT.flow_at hCl rfl trivial (fun wc hwc K hK => ?_);go_simp;have hba := hwc.alloc hwc.size (.cells #[.int .i64 T.A.x, .int .i64 T.A.y, .int .i64 T.B.x, .int .i64 T.B.y, .int .i64 T.C.x, .int .i64 T.C.y] 43);obtain ⟨bz10, hbz⟩ : ∃ b, wc.heap.size = b := ⟨_, rfl⟩;have BZ10 : Box (wc.alloc (.cells #[.int .i64 T.A.x, .int .i64 T.A.y, .int .i64 T.B.x, .int .i64 T.B.y, .int .i64 T.C.x, .int .i64 T.C.y] 43)) bz10 [.int .i64 T.A.x, .int .i64 T.A.y, .int .i64 T.B.x, .int .i64 T.B.y, .int .i64 T.C.x, .int .i64 T.C.y] 43 := by rw [← hbz]; exact Box.new rfl
         refine hK _ _ ⟨HCB.ee hba, HBT.ee hba⟩ ?_;clear hK K;rw [hbz];generalize wc.alloc (.cells #[.int .i64 T.A.x, .int .i64 T.A.y, .int .i64 T.B.x, .int .i64 T.B.y, .int .i64 T.C.x, .int .i64 T.C.y] 43) = wb at *
         replace SM := SM.ee hba;replace HCB := HCB.ee hba;replace HBT := HBT.ee hba;replace hr9 := hr9.ee hba;replace hwx := upB hwx hba;replace BZ2 := BZ2.ee hba;clear hba hwc hbz;refine FT.flow_at hCl rfl trivial (fun wc hwc K hK => ?_);go_simp;refine (zDq mb rb D (some ⟨bz10, 0, none⟩) a9 1 c9 1 n9 [T] Q (Lib.hid rfl) (by decide) hokO HN9 (mf_m hn93) hokQ (HG.out.same HP.out).nodup wc (SM.mbox.ee hwc) (SM.mmap.ee hwc) (zAt (by simpa [cT] using BZ10.ee hwc)) (hr9.ee hwc)).mono ?_;rintro e wd hpost;have HBT2 := HBT.ee hwc;have hTm := mf_tm HBT2 (SM.mbox.ee hwc);obtain ⟨rfl, rb', D4, SM3, G4, hrb, hbel, hkp⟩ := zF9 (SM.ee hwc) HG.out HP.out R3 rfl HN9.out hpost;have hwx1 := (upB hwx hwc);have HRB2 := Lib.hid (show w.heap.size ≤ rb' from mf_rb hrb HRB.out hwx1.size);replace hwx := hbel w hwx1 hb3.out;replace HBT := hkp _ _ _ HBT2 hTm;have HG4 := Lib.hid G4;replace HCB := SM3.cbox;clear hwc hpost G4 hrb hbel hwx1 R3 hr9 SM HBT2 hTm hkp BZ2 BZ10;have SM := SM3;clear SM3;go_simp;refine hK _ _ ⟨HCB, HBT⟩ ?_;clear hK K;intro wz hwz;simp only [dP1, dP0];replace SM := SM.ee hwz;replace hwx := upB hwx hwz;clear hwz hCl hw HCB HBT;have SM3 := SM;clear SM;have hP4 := Lib.hid (show D4.Perm E3 from HG4.out.perm.trans HG3.out.perm.symm);have csh := fun W B H B2 H2 => zCc m2 b2 rb' mb E3 L3 HG3 (fun T h => zB1 (HG3.out.val T h)) (mf_t HL3.out HLT.out hna.out) W B H B2 H2;obtain ⟨xC, yC, zC, vC⟩ := SM3.cbox.f;go_wp2_with fail;clear xC yC zC vC;refine (csh _ SM3.pbox SM3.pmap SM3.mbox (SM3.mmap.perm hP4.out)).mono ?_;rintro e wy ⟨rfl, hb⟩;replace SM3 := SM3.ee hb;replace hwx := upB hwx hb;clear hb csh;go_wp2;rw [← ea]
         go_roundw
         case rel => exact ⟨k + 1, rb', E3, D4, L3, mf_n HLT.out hna.out, HLT.out, SM3, HG3, hP4, HL3, HRB2, hwx⟩
         case measure => exact zFe HLT.out hna.out
       case neg =>
        obtain rfl : k7 = 6 := by have := L7.out; omega
        clear h5 h6;cases hev : (x.y.tmod 2 == 0)
        case false =>
         focus
          obtain ⟨zA, r0, r1⟩ := (HA.out.ee hw).f;obtain ⟨xC, yC, zC, vC⟩ := BC.f;obtain ⟨xT, yT, zT, vT⟩ := BT.f;go_wp2_with fail;clear zA r0 r1;clear xC yC zC vC xT yT zT vT;refine zA2 fun W24 hW => ?_;obtain ⟨bkO, hbO⟩ : ∃ b, w23.heap.size = b := ⟨_, rfl⟩;rw [hbO];obtain ⟨lCO, lTO, fO, BO, BC, BT, hw⟩ := M2 hW hbO BC BT hw;clear hW hbO;have hrO : RowAt cT 6 W24 (some ⟨bkO, 0, none⟩) [T] := zAt (by simpa [cT] using BO);have hcO : 1 ≤ 1 := Nat.le_refl 1;have hokO : ∀ U ∈ [T], okT U := fun U hU => by rw [List.mem_singleton] at hU; rw [hU]; exact hokT.out
          have SM := HSM.out.ee hw;have hwx := HW7.out.trans (hw.mono HW7.out.size);have HRm := HRM.out.ee hwx;have hnm1 := hnm.out;have hcm1 := HCM.out;have hoY := hokY.out;have hnY := hY.out;have HCB := SM.cbox;have hCl : ∀ x y, Ext x y → (fun w' => Box w' cb [.int .i64 s, .int .i64 s, .pointer (some ⟨mb, 0, none⟩), .pointer (some ⟨db, 0, none⟩)] 39) x → (fun w' => Box w' cb [.int .i64 s, .int .i64 s, .pointer (some ⟨mb, 0, none⟩), .pointer (some ⟨db, 0, none⟩)] 39) y := fun x y h1 h2 => Box.ext h2 h1 rfl;refine FT.wp_region_flowC 11 (.run 0 (.run 1 (.run 2 (.run 4 (.run 5 (.run 6 (.run 7 (.run 8 (.run 9 (.alt 3 (.alt 10 (.tail) .stop) .stop)))))))))) rfl (by kernel_rfl) (fun _ x _ _ _ h => by cases x <;> exact h) (C := fun w' => Box w' cb [.int .i64 s, .int .i64 s, .pointer (some ⟨mb, 0, none⟩), .pointer (some ⟨db, 0, none⟩)] 39) (fun _ h => HCB.ee h) hCl ?_
          (refine FT.flow_run rfl (fun K hK => ?_); go_simp; first | (refine hK _ ?_; clear hK K) | (refine ⟨_, fun _ _ => rfl, hK _ ?_⟩; clear hK K))
          (refine FT.flow_run rfl (fun K hK => ?_); go_simp; first | (refine hK _ ?_; clear hK K) | (refine ⟨_, fun _ _ => rfl, hK _ ?_⟩; clear hK K))
          (refine FT.flow_run rfl (fun K hK => ?_); go_simp; first | (refine hK _ ?_; clear hK K) | (refine ⟨_, fun _ _ => rfl, hK _ ?_⟩; clear hK K))
          (refine FT.flow_run rfl (fun K hK => ?_); go_simp; first | (refine hK _ ?_; clear hK K) | (refine ⟨_, fun _ _ => rfl, hK _ ?_⟩; clear hK K))
          (refine FT.flow_run rfl (fun K hK => ?_); go_simp; first | (refine hK _ ?_; clear hK K) | (refine ⟨_, fun _ _ => rfl, hK _ ?_⟩; clear hK K))
          (refine FT.flow_run rfl (fun K hK => ?_); go_simp; first | (refine hK _ ?_; clear hK K) | (refine ⟨_, fun _ _ => rfl, hK _ ?_⟩; clear hK K))
          refine FT.flow_run rfl (fun K hK => ?_);go_simp;refine ⟨.pointer (some ⟨mb, 0, none⟩), fun wq hwq => ?_, hK _ ?_⟩
          ·obtain ⟨y0, y1, y2, y3⟩ := Box.f hwq;go_simp
          clear hK K
          (refine FT.flow_run rfl (fun K hK => ?_); go_simp; first | (refine hK _ ?_; clear hK K) | (refine ⟨_, fun _ _ => rfl, hK _ ?_⟩; clear hK K))
          (refine FT.flow_run rfl (fun K hK => ?_); go_simp; first | (refine hK _ ?_; clear hK K) | (refine ⟨_, fun _ _ => rfl, hK _ ?_⟩; clear hK K))
          refine FT.flow_at hCl rfl trivial (fun wc hwc K hK => ?_);go_simp;refine (zBl m2 b2 E L HG.out (some ⟨bkO, 0, none⟩) am (1) cm 1 nm [T] Y rfl hcO (by decide) hokO hnY hcm1 (mf_m hnm1) hoY wc (SM.pbox.ee hwc) (SM.pmap.ee hwc) (hrO.ee hwc) (HRm.ee hwc)).mono ?_;rintro e wd ⟨r, E3, L3, rfl, hg, H3, G3, R3⟩;have SM1 := SM.ee hwc;have SM2 := SM1.own hg H3;have hrO2 := (hrO.ee hwc).turn cT_ne SM1.pmap hg;have HRm2 := (HRm.ee hwc).turn cT_ne SM1.pmap hg;replace hwx := zAi ((upB hwx hwc)) hg ((upB hwx hwc)).size HB2.out;have HL3 := Lib.hid (show L3.length ≤ 32 + 10 * (k + 1) from mf_l2 R3.len HL.out (by rw [hnY]; exact hnm1));have HG3 := Lib.hid G3;clear SM SM1 hwc hg H3 G3 HCB;go_simp;refine hK _ _ SM2.cbox ?_;clear hK K;refine FT.flow_at hCl rfl trivial (fun wc hwc K hK => ?_);go_simp;refine (zDq mb rb D (some ⟨bkO, 0, none⟩) am (1) cm 1 nm [T] Y (Lib.hid rfl) (by decide) hokO hY (mf_m hnm1) hoY (HG.out.same HP.out).nodup wc (SM2.mbox.ee hwc) (SM2.mmap.ee hwc) (hrO2.ee hwc) (HRm2.ee hwc)).mono ?_;rintro e wd hpost;obtain ⟨rfl, rb', D4, SM3, G4, hrb, hbel⟩ := zGl (SM2.ee hwc) HG.out HP.out R3 rfl hnY hpost;have hwx1 := (upB hwx hwc);have HRB2 := Lib.hid (show w.heap.size ≤ rb' from mf_rb hrb HRB.out hwx1.size);replace hwx := hbel w hwx1 hb3.out;have HG4 := Lib.hid G4;clear SM2 hwc hpost G4 hrb hbel hwx1 R3 hrO2 HRm2 hrO HRm;go_simp;refine hK _ _ SM3.cbox ?_;clear hK K;intro wz hwz;simp only [dP1, dP0];replace SM3 := SM3.ee hwz;replace hwx := upB hwx hwz;clear hwz hCl hw;have hln := fun ty => HoldsMap.len (ty := ty) kvR SM3.mmap;obtain ⟨xC, yC, zC, vC⟩ := SM3.cbox.f;obtain ⟨xD, yD, zD, vD⟩ := SM3.mbox.f;cases hz : ((D4.length : Int) == 0)
          case false =>
           go_wp2_with fail;clear xC yC zC vC xD yD zD vD hln hz;have hP4 := Lib.hid (show D4.Perm E3 from HG4.out.perm.trans HG3.out.perm.symm);have csh := fun W B H B2 H2 => zCc m2 b2 rb' mb E3 L3 HG3 (fun T h => zB1 (HG3.out.val T h)) (mf_t HL3.out HLT.out hna.out) W B H B2 H2;refine (csh _ SM3.pbox SM3.pmap SM3.mbox (SM3.mmap.perm hP4.out)).mono ?_;rintro e wy ⟨rfl, hb⟩;replace SM3 := SM3.ee hb;replace hwx := upB hwx hb;clear hb csh;go_wp2;rw [← ea]
           go_roundw
           case rel => exact ⟨k + 1, rb', E3, D4, L3, mf_n HLT.out hna.out, HLT.out, SM3, HG3, hP4, HL3, HRB2, hwx⟩
           case measure => exact zFe HLT.out hna.out
          case true =>
           have hE0 := Lib.hid (mf_z HG4.out HG3.out hz);have cl := fun W B H => zFc m2 b2 E3 0 hE0 (by decide) W B H;go_wp2_with fail;clear xC yC zC vC xD yD zD vD hln hz;refine (cl _ SM3.pbox SM3.pmap).mono ?_;rintro e wy ⟨rfl, hb⟩;replace hwx := upB hwx hb;clear hb cl;go_wp2_with fail;refine (zBs _).mono ?_;rintro e wz2 ⟨rfl, hb⟩;replace hwx := upB hwx hb;go_wp2
           go_ret
           exact ⟨rfl, hwx⟩
        case true =>
         focus
          have hI0 : 0 < I.length := by rw [HM.out]; exact HMP.out
          obtain ⟨ad8, A8, ea8, eA8, hA8⟩ := HR7.out.six hI0;obtain rfl : ad7 = ad8 := Option.some.inj ea8;have HT0 := Lib.hid (HP0.out.mem_iff.1 (List.getElem_mem hI0));generalize I[0] = U at *
          have eA9 : ad7 = A8 := by rw [← eA8]; simp [Addr.add]
          subst eA9;clear ea8 eA8;obtain ⟨zA, r0, r1⟩ := (HA.out.ee hw).f;have hwA : Below w7.heap.size w7 (w23.alloc (.cells #[.int .i64 T.A.x, .int .i64 T.A.y, .int .i64 T.B.x, .int .i64 T.B.y, .int .i64 T.C.x, .int .i64 T.C.y] 43)) := hw.alloc hw.size _;obtain ⟨t6, t0, t1, t2, t3, t4, t5⟩ := (hA8.ee hwA).f;have hm1' : (0 : Int) < (m : Int) := Int.ofNat_lt.2 HMP.out;have hm2' := HMP.out;have own0 : (w23.alloc (.cells (cT T).toArray 43)).ownsRow w23.heap.size 43 6 (.slice (some ⟨w23.heap.size, 0, none⟩) 1 1) [T].length ([T].flatMap cT) := by
           have := World.ownsRow_lit (base := w23.heap.size) (e := 43) (size := 6) w23 (cT T).toArray 1 (Nat.le_refl _) (by decide) (by simp [cT])
           simpa using this
          obtain ⟨xC, yC, zC, vC⟩ := BC.f;obtain ⟨xT, yT, zT, vT⟩ := BT.f;go_wp2_with (at_builtin; refine zB3 rfl _ _ rfl w23.heap.size _ [T] rfl (own0.alloc _) (w23.heap.size + 1) U rfl (Box.new (by simp)) (by simp) (by simp; exact Nat.le_trans (Nat.le_succ _) (Nat.le_succ _)) ?_; intro w40 v40 hown4 hg4)
          have h40 : Below w23.heap.size w23 w40 := (((Below.refl _ w23).alloc (Nat.le_refl _) _).alloc (by simp) _).grown hg4 (by simp; exact Nat.le_trans (Nat.le_succ _) (Nat.le_succ _)) (fun k hk => by cases hk; exact Nat.le_refl _);clear t6 t0 t1 t2 t3 t4 t5 zA r0 r1 hwA hA8;clear xC yC zC vC xT yT zT vT;replace BC := BC.ee h40;replace hw := upB hw h40;clear h40 hg4 own0 BT;obtain ⟨aO, cO, rfl, hcO, hrO⟩ := zAr zFs hown4;clear hown4;have hokO : ∀ V ∈ [T] ++ [U], okT V := fun V hV => by
           rcases List.mem_append.1 hV with h | h
           ·rw [List.mem_singleton.1 h]; exact hokT.out
           ·rw [List.mem_singleton.1 h]; exact zB1 (HG.out.val U HT0.out)
          have SM := HSM.out.ee hw;have hwx := HW7.out.trans (hw.mono HW7.out.size);have HRm := HRM.out.ee hwx;have hnm1 := hnm.out;have hcm1 := HCM.out;have hoY := hokY.out;have hnY := hY.out;have HCB := SM.cbox;have hCl : ∀ x y, Ext x y → (fun w' => Box w' cb [.int .i64 s, .int .i64 s, .pointer (some ⟨mb, 0, none⟩), .pointer (some ⟨db, 0, none⟩)] 39) x → (fun w' => Box w' cb [.int .i64 s, .int .i64 s, .pointer (some ⟨mb, 0, none⟩), .pointer (some ⟨db, 0, none⟩)] 39) y := fun x y h1 h2 => Box.ext h2 h1 rfl;refine FT.wp_region_flowC 11 (.run 0 (.run 1 (.run 2 (.run 4 (.run 5 (.run 6 (.run 7 (.run 8 (.run 9 (.alt 3 (.alt 10 (.tail) .stop) .stop)))))))))) rfl (by kernel_rfl) (fun _ x _ _ _ h => by cases x <;> exact h) (C := fun w' => Box w' cb [.int .i64 s, .int .i64 s, .pointer (some ⟨mb, 0, none⟩), .pointer (some ⟨db, 0, none⟩)] 39) (fun _ h => HCB.ee h) hCl ?_
          (refine FT.flow_run rfl (fun K hK => ?_); go_simp; first | (refine hK _ ?_; clear hK K) | (refine ⟨_, fun _ _ => rfl, hK _ ?_⟩; clear hK K))
          (refine FT.flow_run rfl (fun K hK => ?_); go_simp; first | (refine hK _ ?_; clear hK K) | (refine ⟨_, fun _ _ => rfl, hK _ ?_⟩; clear hK K))
          (refine FT.flow_run rfl (fun K hK => ?_); go_simp; first | (refine hK _ ?_; clear hK K) | (refine ⟨_, fun _ _ => rfl, hK _ ?_⟩; clear hK K))
          (refine FT.flow_run rfl (fun K hK => ?_); go_simp; first | (refine hK _ ?_; clear hK K) | (refine ⟨_, fun _ _ => rfl, hK _ ?_⟩; clear hK K))
          (refine FT.flow_run rfl (fun K hK => ?_); go_simp; first | (refine hK _ ?_; clear hK K) | (refine ⟨_, fun _ _ => rfl, hK _ ?_⟩; clear hK K))
          (refine FT.flow_run rfl (fun K hK => ?_); go_simp; first | (refine hK _ ?_; clear hK K) | (refine ⟨_, fun _ _ => rfl, hK _ ?_⟩; clear hK K))
          refine FT.flow_run rfl (fun K hK => ?_);go_simp;refine ⟨.pointer (some ⟨mb, 0, none⟩), fun wq hwq => ?_, hK _ ?_⟩
          ·obtain ⟨y0, y1, y2, y3⟩ := Box.f hwq;go_simp
          clear hK K
          (refine FT.flow_run rfl (fun K hK => ?_); go_simp; first | (refine hK _ ?_; clear hK K) | (refine ⟨_, fun _ _ => rfl, hK _ ?_⟩; clear hK K))
          (refine FT.flow_run rfl (fun K hK => ?_); go_simp; first | (refine hK _ ?_; clear hK K) | (refine ⟨_, fun _ _ => rfl, hK _ ?_⟩; clear hK K))
          refine FT.flow_at hCl rfl trivial (fun wc hwc K hK => ?_);go_simp;refine (zBl m2 b2 E L HG.out (aO) am (cO) cm 2 nm ([T] ++ [U]) Y rfl hcO (by decide) hokO hnY hcm1 (mf_m hnm1) hoY wc (SM.pbox.ee hwc) (SM.pmap.ee hwc) (hrO.ee hwc) (HRm.ee hwc)).mono ?_;rintro e wd ⟨r, E3, L3, rfl, hg, H3, G3, R3⟩;have SM1 := SM.ee hwc;have SM2 := SM1.own hg H3;have hrO2 := (hrO.ee hwc).turn cT_ne SM1.pmap hg;have HRm2 := (HRm.ee hwc).turn cT_ne SM1.pmap hg;replace hwx := zAi ((upB hwx hwc)) hg ((upB hwx hwc)).size HB2.out;have HL3 := Lib.hid (show L3.length ≤ 32 + 10 * (k + 1) from mf_l2 R3.len HL.out (by rw [hnY]; exact hnm1));have HG3 := Lib.hid G3;clear SM SM1 hwc hg H3 G3 HCB;go_simp;refine hK _ _ SM2.cbox ?_;clear hK K;refine FT.flow_at hCl rfl trivial (fun wc hwc K hK => ?_);go_simp;refine (zDq mb rb D (aO) am (cO) cm 2 nm ([T] ++ [U]) Y (Lib.hid rfl) (by decide) hokO hY (mf_m hnm1) hoY (HG.out.same HP.out).nodup wc (SM2.mbox.ee hwc) (SM2.mmap.ee hwc) (hrO2.ee hwc) (HRm2.ee hwc)).mono ?_;rintro e wd hpost;obtain ⟨rfl, rb', D4, SM3, G4, hrb, hbel⟩ := zGl (SM2.ee hwc) HG.out HP.out R3 rfl hnY hpost;have hwx1 := (upB hwx hwc);have HRB2 := Lib.hid (show w.heap.size ≤ rb' from mf_rb hrb HRB.out hwx1.size);replace hwx := hbel w hwx1 hb3.out;have HG4 := Lib.hid G4;clear SM2 hwc hpost G4 hrb hbel hwx1 R3 hrO2 HRm2 hrO HRm;go_simp;refine hK _ _ SM3.cbox ?_;clear hK K;intro wz hwz;simp only [dP1, dP0];replace SM3 := SM3.ee hwz;replace hwx := upB hwx hwz;clear hwz hCl hw;have hln := fun ty => HoldsMap.len (ty := ty) kvR SM3.mmap;obtain ⟨xC, yC, zC, vC⟩ := SM3.cbox.f;obtain ⟨xD, yD, zD, vD⟩ := SM3.mbox.f;cases hz : ((D4.length : Int) == 0)
          case false =>
           go_wp2_with fail;clear xC yC zC vC xD yD zD vD hln hz;have hP4 := Lib.hid (show D4.Perm E3 from HG4.out.perm.trans HG3.out.perm.symm);have csh := fun W B H B2 H2 => zCc m2 b2 rb' mb E3 L3 HG3 (fun T h => zB1 (HG3.out.val T h)) (mf_t HL3.out HLT.out hna.out) W B H B2 H2;refine (csh _ SM3.pbox SM3.pmap SM3.mbox (SM3.mmap.perm hP4.out)).mono ?_;rintro e wy ⟨rfl, hb⟩;replace SM3 := SM3.ee hb;replace hwx := upB hwx hb;clear hb csh;go_wp2;rw [← ea]
           go_roundw
           case rel => exact ⟨k + 1, rb', E3, D4, L3, mf_n HLT.out hna.out, HLT.out, SM3, HG3, hP4, HL3, HRB2, hwx⟩
           case measure => exact zFe HLT.out hna.out
          case true =>
           have hE0 := Lib.hid (mf_z HG4.out HG3.out hz);have cl := fun W B H => zFc m2 b2 E3 0 hE0 (by decide) W B H;go_wp2_with fail;clear xC yC zC vC xD yD zD vD hln hz;refine (cl _ SM3.pbox SM3.pmap).mono ?_;rintro e wy ⟨rfl, hb⟩;replace hwx := upB hwx hb;clear hb cl;go_wp2_with fail;refine (zBs _).mono ?_;rintro e wz2 ⟨rfl, hb⟩;replace hwx := upB hwx hb;go_wp2
           go_ret
           exact ⟨rfl, hwx⟩
theorem mf_no (s : Int) (a0 aa am : Option Addr) (n na nm c0 ca cm : Nat) (hf : s < 1 ∨ 30 < s ∨ 15 < n ∨ 40 < na ∨ 10 < nm) (w : World) :
    Calls Tryz.prog 3 #[.int .i64 s, .slice a0 n c0, .slice aa na ca, .slice am nm cm] w fun e w' => e = .returned (.bool true) ∧ Below w.heap.size w w' := by
 have en : decide ((15 : Int) < (n : Int)) = decide (15 < n) := by simp; omega
 have ea : decide ((40 : Int) < (na : Int)) = decide (40 < na) := by simp; omega
 have em : decide ((10 : Int) < (nm : Int)) = decide (10 < nm) := by simp; omega
 cases h1 : decide (s < 1) with
 | true =>
  clear hf en ea em
  go_enter Tryz.func3, Tryz.ntmps3
  go_wp2_with fail;refine (zBs _).mono ?_;rintro e w2 ⟨rfl, hb2⟩;go_wp2
  go_ret
  exact ⟨rfl, hb2⟩
 | false =>
  cases h2 : decide ((30 : Int) < s) with
  | true =>
   clear hf en ea em
   go_enter Tryz.func3, Tryz.ntmps3
   go_wp2_with fail;refine (zBs _).mono ?_;rintro e w2 ⟨rfl, hb2⟩;go_wp2
   go_ret
   exact ⟨rfl, hb2⟩
  | false =>
   cases h3 : decide ((15 : Int) < (n : Int)) with
   | true =>
    clear hf en ea em
    go_enter Tryz.func3, Tryz.ntmps3
    go_wp2_with fail;refine (zBs _).mono ?_;rintro e w2 ⟨rfl, hb2⟩;go_wp2
    go_ret
    exact ⟨rfl, hb2⟩
   | false =>
    cases h4 : decide ((40 : Int) < (na : Int)) with
    | true =>
     clear hf en ea em
     go_enter Tryz.func3, Tryz.ntmps3
     go_wp2_with fail;refine (zBs _).mono ?_;rintro e w2 ⟨rfl, hb2⟩;go_wp2
     go_ret
     exact ⟨rfl, hb2⟩
    | false =>
     cases h5 : decide ((10 : Int) < (nm : Int)) with
     | true =>
      clear hf en ea em
      go_enter Tryz.func3, Tryz.ntmps3
      go_wp2_with fail;refine (zBs _).mono ?_;rintro e w2 ⟨rfl, hb2⟩;go_wp2
      go_ret
      exact ⟨rfl, hb2⟩
     | false => exfalso; rw [en] at h3; rw [ea] at h4; rw [em] at h5; simp at h1 h2 h3 h4 h5; omega
end Go.Proofs.YtjkfakaehjmnbaaGreat
namespace Go.Proofs.YtjkfakaehjmnbaaGreat
open Go.RowKit Go.Sort Go.ChangeShapes Go.WideShapes Go.ChangeAt
section
variable {H : Type} {enc : TypeId × Value → H} {w : World} {base : Nat → Bool} {spare : Bool}
theorem list6 {α : Type} {l : List α} (h : l.length = 6) : ∃ a b c d e f, l = [a, b, c, d, e, f] := by
 match l, h with
 | [a, b, c, d, e, f], _ => exact ⟨a, b, c, d, e, f, rfl⟩
theorem zJ9 {b0 : Nat} {fuel : Nat} {u v : Value} {y : DataW H × List MemPlace} (h : DataW.trod enc Tryz.prog w b0 base spare fuel 30 [u, v] = some y) :
    ∃ a b, u = .int .i64 a ∧ v = .int .i64 b ∧ y = (.agg [.lit (.int .i64 a), .lit (.int .i64 b)], []) ∧ (Lit.int .i64 a).wf = true ∧ (Lit.int .i64 b).wf = true := by
 obtain ⟨y0, y1, n, rfl, hl, h0, h1⟩ := trod_struct2 Tryz.underlying30 h;rw [show Tryz.prog.cellsOf 3 = 1 by kernel_rfl] at h0 h1;simp only [List.drop_zero, List.take_succ_cons, List.take_zero, List.drop_succ_cons] at h0 h1;obtain ⟨a, ha, rfl, wa⟩ := DataW.trod_int Tryz.underlying3 h0;obtain ⟨b, hb, rfl, wb⟩ := DataW.trod_int Tryz.underlying3 h1;simp at ha hb;exact ⟨a, b, ha, hb, rfl, wa, wb⟩
end
section
variable {H : Type} {enc : TypeId × Value → H} {w : World} {base : Nat → Bool} {spare : Bool}
theorem trod_tri {b0 : Nat} {fuel : Nat} {cs : List Value} {y : DataW H × List MemPlace} (hl : cs.length = 6) (hf : DataW.trod enc Tryz.prog w b0 base spare fuel 43 cs = some y) :
    ∃ T : Tri3, cs = cT T ∧ okT T := by
 obtain ⟨c0, c1, c2, c3, c4, c5, hc⟩ := list6 hl;subst hc;obtain ⟨y0, y1, y2, n, hx, _, h0, h1, h2⟩ := Deep.trod_struct3 Tryz.underlying43 hf;rw [show Tryz.prog.cellsOf 30 = 2 by kernel_rfl] at h0 h1 h2;simp only [List.drop_zero, List.take_succ_cons, List.take_zero, List.drop_succ_cons] at h0 h1 h2;obtain ⟨a0, a1, rfl, rfl, rfl, w0, w1⟩ := zJ9 h0;obtain ⟨a2, a3, rfl, rfl, rfl, w2, w3⟩ := zJ9 h1;obtain ⟨a4, a5, rfl, rfl, rfl, w4, w5⟩ := zJ9 h2;exact ⟨⟨⟨a0, a1⟩, ⟨a2, a3⟩, ⟨a4, a5⟩⟩, rfl, ⟨w0, w1⟩, ⟨w2, w3⟩, ⟨w4, w5⟩⟩
instance : Inhabited Tri3 := ⟨⟨⟨0, 0⟩, ⟨0, 0⟩, ⟨0, 0⟩⟩⟩
theorem open_row {r : Reach} {b0 b1 : Nat} {v : Value} {d : DataW H} {p : List MemPlace} (hv : Value.okWide Tryz.prog w r b1 24 v) (h : DataW.Trod enc Tryz.prog w b0 base spare 24 v d p) :
    ∃ (a : Option Addr) (n cap : Nat) (L : List Tri3), v = .slice a n cap ∧ L.length = n ∧ RowAt cT 6 w a L ∧ ∀ T ∈ L, okT T := by
 obtain ⟨a0, n0, k0, rfl⟩ := okWide_slice Tryz.underlying24 hv;obtain ⟨fuel, hf⟩ := h;simp only [Value.cells] at hf;rcases Deep.open_slice Tryz.underlying24 hf with ⟨hcs, _⟩ | ⟨a, len, cap, m, n, D, Pl, hcs, hb, hl, hm, hmm, hx, hi⟩
 ·simp only [List.cons.injEq, Value.slice.injEq, and_true] at hcs;obtain ⟨rfl, rfl, rfl⟩ := hcs;exact ⟨none, 0, 0, [], rfl, rfl, fun j x hx => (by simp at hx), fun T hT => (by simp at hT)⟩
 ·simp only [List.cons.injEq, Value.slice.injEq, and_true] at hcs;obtain ⟨rfl, rfl, rfl⟩ := hcs;have hlm : n0 ≤ m := by rw [hmm]; split <;> omega
  have each : ∀ i, i < n0 → ∃ T : Tri3, okT T ∧ ∀ j u, (cT T)[j]? = some u → w.cell? ((a.add (i * 6)).add j) = some u := fun i hin => by
   obtain ⟨cs', h1, h2⟩ := hi i (by omega);rw [show Tryz.prog.cellsOf 43 = 6 by kernel_rfl] at h1;obtain ⟨_, hlen, hcell⟩ := World.cells?_some h1;obtain ⟨T, rfl, hk⟩ := trod_tri hlen h2;refine ⟨T, hk, fun j u hu => ?_⟩;rw [hcell j (by have := (List.getElem?_eq_some_iff.1 hu).1; rwa [hlen] at this)]; exact hu
  obtain ⟨f, hf2⟩ := Deep.choose_lt each;refine ⟨some a, n0, k0, (List.range n0).map f, rfl, by simp, fun j x hx => ?_, fun T hT => ?_⟩
  ·rw [List.getElem?_map] at hx;obtain ⟨i, hi1, rfl⟩ := Option.map_eq_some_iff.1 hx;have hj : j < n0 ∧ i = j := by
    obtain ⟨h1, h2⟩ := List.getElem?_eq_some_iff.1 hi1;simp at h1 h2; exact ⟨h1, h2.symm⟩
   obtain ⟨hj, rfl⟩ := hj;have hc := (hf2 i hj).2;refine ⟨a, rfl, ?_, hc⟩;have h4 := hc 0 _ rfl;unfold World.cell? at h4;rw [zAk, zAk] at h4;rcases Nat.lt_or_ge a.block w.heap.size with h' | h'
   ·exact h'
   ·simp [Array.getElem?_eq_none h'] at h4
  ·obtain ⟨i, hi1, rfl⟩ := List.mem_map.1 hT;exact (hf2 i (List.mem_range.1 hi1)).1
end
end Go.Proofs.YtjkfakaehjmnbaaGreat
