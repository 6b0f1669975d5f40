/- Whatever walls are added and removed, each act tells, and all walls are, as the document says: the law WallsActs of package hectarelaw7 answers true at every input; no conditions. -/
import Derived.Test.YtnocdecimcpkfaaRows
import Derived.Test.YtnocdecimcpkfaaPut24
import Derived.Test.YtnocdecimcpkfaaPut29
import Derived.Test.YtnocdecimcpkfaaPut27
import Derived.Test.YtnocdecimcpkfaaPut25
import Derived.Test.YtnocdecimcpkfaaPut1
import Derived.WalkKit
import Derived.WalkSpells
import Derived.WalkLawsBesides
import Derived.Deep.QuietTactic
import Derived.BigQuiet
import Derived.Lib.Hide
import Derived.Handy
import Derived.OwnWalk
import Derived.Deep.CutBlock
import Derived.Deep.CutRange
import Derived.Carry
import Derived.ProofKit
import Derived.Lib.SmallJoins
namespace Go.Proofs.Ytnocdecimcpkfaa
open Go.RowKit Go.Sort Go.ChangeShapes Go.WideShapes Go.ChangeAt
attribute [local go_sem] rOper rAt rUpon cell_set sg_i64 sg_u64 alloc_cell alloc_frozen
attribute [local go_sem 10000] pt_eql pt_neq wal_eql wal_neq
attribute [local irreducible] rWalk

/-- The project's set and the document's walls, of one row, apart in memory. -/
structure Pr (w wr : World) (sb db : Nat) (vs vm : Value) (L M : List Wl) : Prop where
  S : SetAt wr sb vs L
  D : DocAt wr db vm M
  sd : ∀ k, Foot sb vs k → ¬ Foot db vm k
  slo : ∀ k, Foot sb vs k → w.heap.size ≤ k
  dlo : ∀ k, Foot db vm k → w.heap.size ≤ k
  hw : Below w.heap.size w wr
theorem foot_ltD {w : World} {db : Nat} {v : Value} {L : List Wl} (D : DocAt w db v L) : ∀ k, Foot db v k → k < w.heap.size := fun k h => by
  rcases h with h | h
  · rw [h]; exact D.box.lt
  · exact (D.row.lt k h).2
section
variable {w wr w' : World} {sb db : Nat} {vs vm v' : Value} {L M L' : List Wl}
theorem Pr.ext (B : Pr w wr sb db vs vm L M) (hb : Below wr.heap.size wr w') : Pr w w' sb db vs vm L M :=
  ⟨B.S.ext hb rfl, B.D.ext hb rfl, B.sd, B.slo, B.dlo, B.hw.trans (hb.mono B.hw.size)⟩
theorem DocAt.keep {p : Nat → Prop} (D : DocAt wr db vm M) (h : Frm wr w' p) (h1 : ¬ p db) (h2 : ∀ g, vm.ownBlock = some g → ¬ p g) : DocAt w' db vm M :=
  ⟨h.box D.box h1, h.row D.row h2, D.ne, D.le⟩
theorem Pr.addS (B : Pr w wr sb db vs vm L M) {n : Nat} (S' : SetAt w' sb v' L') (hf : Frm wr w' (Foot sb vs)) (hs : Fresh vs v' n) (hn : wr.heap.size ≤ n) : Pr w w' sb db v' vm L' M := by
  have hd := foot_ltD B.D
  refine ⟨S', B.D.keep hf (fun h => B.sd _ h (.inl rfl)) (fun g e h => B.sd _ h (.inr e)), fun k h h2 => ?_, fun k h => ?_, B.dlo, B.hw.trans (hf.below B.slo B.hw.size)⟩
  · rcases foot_step hs k h with h | h
    · exact B.sd k h h2
    · have := hd k h2; omega
  · rcases foot_step hs k h with h | h
    · exact B.slo k h
    · have := B.hw.size; omega
theorem Pr.addD (B : Pr w wr sb db vs vm L M) (D' : DocAt w' db v' L') (hf : Frm wr w' (· = db)) (hg : ∀ g, v'.ownBlock = some g → vm.ownBlock = some g ∨ wr.heap.size ≤ g) : Pr w w' sb db vs v' L L' := by
  have hs := foot_lt B.S
  have hdb : ∀ k, Foot sb vs k → ¬ k = db := fun k h e => B.sd k h (.inl e)
  refine ⟨B.S.keep hf (fun e => hdb _ (.inl rfl) e) (fun g e h => hdb _ (.inr e) h), D', fun k h h2 => ?_, B.slo, fun k h => ?_, B.hw.trans (hf.below (fun k e => B.dlo k (.inl e)) B.hw.size)⟩
  · rcases h2 with h2 | h2
    · exact hdb k h h2
    · rcases hg k h2 with h3 | h3
      · exact B.sd k h (.inr h3)
      · have := hs k h; omega
  · rcases h with h | h
    · exact B.dlo k (.inl h)
    · rcases hg k h with h3 | h3
      · exact B.dlo k (.inr h3)
      · have := B.hw.size; omega
end
theorem rem_sub (L : List Wl) (p q : Pt) : (remL L p q).Sublist L := by
  unfold remL
  split
  · exact cut_sub _ _
  · exact List.Sublist.refl _
theorem onV_form (o : Option Wl) : ∃ (V : Wl) (b : Bool), onV o = .tuple #[.agg #[.int .i64 V.A.x, .int .i64 V.A.y, .int .i64 V.B.x, .int .i64 V.B.y, .int .i64 V.K], .bool b] := by
  cases o with
  | none => exact ⟨⟨⟨0, 0⟩, ⟨0, 0⟩, 0⟩, false, rfl⟩
  | some x => exact ⟨x, true, rfl⟩
set_option maxRecDepth 100000 in
set_option maxHeartbeats 1000000 in
theorem wa_big (a a2 : Option Addr) (c n c2 n2 : Nat) (h : 20 < n ∨ 40 < n2) (w : World) : Calls Try.prog 3 #[.slice a n c, .slice a2 n2 c2] w fun e w' => e = .returned (.bool true) ∧ Below w.heap.size w w' := by
  by_cases h1 : 20 < n
  · have hd : decide ((20 : Int) < (n : Int)) = true := by simp; omega
    go_enter Try.func3, Try.ntmps3
    go_wp2_with fail
    refine (awake_any w).mono ?_
    rintro e w1 ⟨rfl, hb⟩
    go_wp2
    go_ret
    exact ⟨rfl, hb⟩
  · have hd : decide ((20 : Int) < (n : Int)) = false := by simp; omega
    have hd2 : decide ((40 : Int) < (n2 : Int)) = true := by simp; omega
    go_enter Try.func3, Try.ntmps3
    go_wp2_with fail
    refine (awake_any w).mono ?_
    rintro e w1 ⟨rfl, hb⟩
    go_wp2
    go_ret
    exact ⟨rfl, hb⟩
def AdjS (S : List Wl) : Prop := ∃ (i : Nat) (h : i + 1 < S.length), adjB S[i] S[i + 1] = true
def HitS (S : List Wl) : Prop := ∃ (k : Nat) (h : k < S.length), hitB (S.take k) S[k] = true
def NewR (L : List Wl) (r : Int) : Prop :=
  (r = 2 ∧ L.any unm = true) ∨ (L.any unm = false ∧ ((r = 5 ∧ AdjS (srt cmpW L)) ∨ (¬ AdjS (srt cmpW L) ∧ ((r = 7 ∧ HitS (srt cmpW L)) ∨ (r = 0 ∧ ¬ HitS (srt cmpW L))))))
theorem newR_one {L : List Wl} {r s : Int} (h : NewR L r) (h2 : NewR L s) : r = s := by
  rcases h with ⟨rfl, a⟩ | ⟨a, ⟨rfl, b⟩ | ⟨b, ⟨rfl, c⟩ | ⟨rfl, c⟩⟩⟩ <;> rcases h2 with ⟨rfl, a2⟩ | ⟨a2, ⟨rfl, b2⟩ | ⟨b2, ⟨rfl, c2⟩ | ⟨rfl, c2⟩⟩⟩ <;> first | rfl | exact absurd b b2 | exact absurd b2 b | exact absurd c c2 | exact absurd c2 c | exact absurd (a.symm.trans a2) (by simp) | exact absurd (a2.symm.trans a) (by simp)
theorem newAt_r {L : List Wl} {r : Int} {L' : List Wl} (h : NewAt L r L') : NewR L r ∧ (r = 0 → L' = srt cmpW L ∧ Apart L' ∧ Ris L' ∧ ∀ x ∈ L', GoodW x) := by
  rcases new_same h with ⟨rfl, a⟩ | ⟨a, ⟨rfl, b⟩ | ⟨b, ⟨rfl, c⟩ | ⟨rfl, c, d, e, f, g⟩⟩⟩
  · exact ⟨.inl ⟨rfl, a⟩, fun h => by cases h⟩
  · exact ⟨.inr ⟨a, .inl ⟨rfl, b⟩⟩, fun h => by cases h⟩
  · exact ⟨.inr ⟨a, .inr ⟨b, .inl ⟨rfl, c⟩⟩⟩, fun h => by cases h⟩
  · exact ⟨.inr ⟨a, .inr ⟨b, .inr ⟨rfl, c⟩⟩⟩, fun _ => ⟨d, e, f, g⟩⟩
def NewPostS (L : List Wl) (w : World) (e : Ending) (w' : World) : Prop :=
  ∃ r, NewR L r ∧ Below w.heap.size w w' ∧ ((r ≠ 0 ∧ e = .returned (.tuple #[.pointer none, .int .i64 r])) ∨ (r = 0 ∧ ∃ sb v, e = .returned (.tuple #[.pointer (some ⟨sb, 0, none⟩), .int .i64 0]) ∧ Box w' sb [v] 64 ∧ WRow w' w.heap.size v (srt cmpW L) ∧ w.heap.size ≤ sb ∧ v.ownBlock ≠ some sb))
theorem newS_any (a : Option Addr) (c : Nat) (L : List Wl) (hL : L.length < 1000000) (hf : Flat a) (hz : a = none → L = []) (w : World) (h : RowAt cW 5 w a L) :
    Calls Try.prog 8 #[.slice a L.length c] w (NewPostS L w) := by
  cases hu : L.any unm with
  | true => exact (new_bad a c L hL hf hu w h).mono fun e w' ⟨h1, h2⟩ => ⟨2, .inl ⟨rfl, hu⟩, h2, .inl ⟨by decide, h1⟩⟩
  | false =>
    obtain ⟨b2, hb2⟩ : ∃ b2 : Bool, b2 = true ↔ HitS (srt cmpW L) := by
      by_cases hh : HitS (srt cmpW L)
      · exact ⟨true, iff_yes hh⟩
      · exact ⟨false, iff_no hh⟩
    by_cases ha : AdjS (srt cmpW L)
    · exact (new_twice a c L hL hf hz _ rfl true rfl (iff_yes ha) b2 hb2 hu w h).mono fun e w' ⟨h1, h2⟩ => ⟨5, .inr ⟨hu, .inl ⟨rfl, ha⟩⟩, h2, .inl ⟨by decide, h1⟩⟩
    · cases hb : b2 with
      | true => exact (new_tang a c L hL hf hz _ rfl false rfl (iff_no ha) b2 hb hb2 hu w h).mono fun e w' ⟨h1, h2⟩ => ⟨7, .inr ⟨hu, .inr ⟨ha, .inl ⟨rfl, hb2.1 hb⟩⟩⟩, h2, .inl ⟨by decide, h1⟩⟩
      | false => exact (new_ok a c L hL hf hz _ rfl false rfl (iff_no ha) b2 hb hb2 hu w h).mono fun e w' ⟨sb, v, h1, h2, h3, h4, h5, h6⟩ => ⟨0, .inr ⟨hu, .inr ⟨ha, .inr ⟨rfl, fun hh => by have := hb2.2 hh; rw [hb] at this; cases this⟩⟩⟩, h6, .inr ⟨rfl, sb, v, h1, h2, h3, h4, h5⟩⟩
set_option maxRecDepth 100000 in
set_option maxHeartbeats 8000000 in
theorem wa_main (a a3 : Option Addr) (c n c2 m : Nat) (L : List Wl) (K : List Ac) (hn : L.length = n) (h20 : n ≤ 20) (hm : K.length = m) (h40 : m ≤ 40) (hfl : Flat a) (hz : a = none → L = []) (w : World) (Hr : RowAt cW 5 w a L) (Hk : RowAt cA 8 w a3 K) : Calls Try.prog 3 #[.slice a n c, .slice a3 m c2] w fun e w' => e = .returned (.bool true) ∧ Below w.heap.size w w' := by
  subst hn
  have hd : decide ((20 : Int) < (L.length : Int)) = false := by simp; omega
  have hd2 : decide ((40 : Int) < (m : Int)) = false := by simp; omega
  have HMK := Lib.hid hm
  have HR := Lib.hid Hr
  have HK := Lib.hid Hk
  have HFL := Lib.hid hfl
  have HZ := Lib.hid hz
  have cNew := newS_any a c L (by omega) hfl hz w Hr
  have CNEW := Lib.hid cNew
  have HN9 : Hid (L.length ≤ 999999) := Lib.hid (by omega)
  clear cNew
  clear hm Hr Hk hfl hz
  go_enter Try.func3, Try.ntmps3
  go_wp2_with fail
  refine CNEW.out.mono ?_
  rintro e w1 ⟨r, hr, hb1, hcase⟩
  have HR1 := Lib.hid (HR.out.ext hb1 rfl)
  have HB1 := Lib.hid hb1
  have HNR := Lib.hid hr
  clear hr
  rcases hcase with ⟨hr0, rfl⟩ | ⟨hr0, sb, vs, rfl, hbox, hrow, hsb, hne⟩
  · have HR0 := Lib.hid hr0
    clear hr0 hb1
    go_wp2_with fail
    refine (rnew_any a c L.length L rfl HN9.out w1 HR1.out).mono ?_
    rintro e w2 ⟨r2, L2, hN, hb2, hcase⟩
    have hrr := newR_one HNR.out (newAt_r hN).1
    subst hrr
    rcases hcase with ⟨_, rfl⟩ | ⟨h0, _⟩
    · have HW := Lib.hid (HB1.out.trans (hb2.mono HB1.out.size))
      have hq : (r != r) = false := by simp
      have hq2 : (r == r) = true := by simp
      clear hN hb2
      go_wp2_with fail
      refine (awake_any w2).mono ?_
      rintro e w3 ⟨rfl, hb3⟩
      have HW3 := Lib.hid (HW.out.trans (hb3.mono HW.out.size))
      clear hb3
      go_wp2
      go_ret
      exact ⟨rfl, HW3.out⟩
    · exact absurd h0 HR0.out
  · subst hr0
    have HBX := Lib.hid hbox
    have HRW := Lib.hid hrow
    have HSB := Lib.hid hsb
    have HNE := Lib.hid hne
    clear hb1 hbox hrow hsb hne
    go_wp2_with fail
    refine (rnew_any a c L.length L rfl HN9.out w1 HR1.out).mono ?_
    rintro e w2 ⟨r2, L2, hN, hb2, hcase⟩
    obtain ⟨hN1, hN2⟩ := newAt_r hN
    have hrr := newR_one HNR.out hN1
    subst hrr
    rcases hcase with ⟨h0, _⟩ | ⟨_, db, vm, rfl, hD, hdb, hge⟩
    · exact absurd rfl h0
    · obtain ⟨rfl, hap, hris, hgood⟩ := hN2 rfl
      have hlen : (srt cmpW L).length = L.length := (srt_perm L).length_eq
      have B : Pr w w2 sb db vs vm (srt cmpW L) (srt cmpW L) :=
        ⟨⟨HBX.out.ext hb2 rfl, (HRW.out.ext hb2 rfl).base (Nat.zero_le _), HNE.out, by omega, hris, hgood⟩, hD, fun k h1 h2 => (by
          have k1 : k < w1.heap.size := by
            rcases h1 with h1 | h1
            · rw [h1]; exact HBX.out.lt
            · exact (HRW.out.lt k h1).2
          rcases h2 with h2 | h2
          · omega
          · have := hge k h2; omega), fun k h1 => (by
          rcases h1 with h1 | h1
          · rw [h1]; exact HSB.out
          · exact (HRW.out.lt k h1).1), fun k h2 => (by
          have := HB1.out.size
          rcases h2 with h2 | h2
          · omega
          · have := hge k h2; omega), HB1.out.trans (hb2.mono HB1.out.size)⟩
      have hL0 : (srt cmpW L).length ≤ 20 := by omega
      generalize srt cmpW L = L0 at *
      have HB := Lib.hid B
      have HAP := Lib.hid hap
      have HL0 := Lib.hid hL0
      clear B hap hL0 hlen hris hgood hD hdb hge hN hN1 hN2 hb2 HBX HRW HSB HNE HNR HB1 HR1 HR
      go_wp2_with fail
      go_loopw [9] (fun vi wr => ∃ (k : Nat) (Lc : List Wl) (vs vm : Value), k ≤ m ∧ vi = .int .i64 k ∧ Pr w wr sb db vs vm Lc Lc ∧ Apart Lc ∧ Lc.length ≤ 20 + k) (fun vi _ => m - (intOf vi).toNat)
      case atStart => exact ⟨0, L0, vs, vm, Nat.zero_le _, rfl, HB.out, HAP.out, HL0.out⟩
      case round =>
        clear HB HAP HL0 vs vm
        obtain ⟨k, Lc, vs, vm, hk, rfl, B, hap, hle⟩ := hrel
        by_cases hkm : k < m
        · have hkL : k < K.length := by rw [HMK.out]; exact hkm
          obtain ⟨aj, A, ea, eA, hA8⟩ := (HK.out.ext B.hw rfl).eight (j := k) hkL
          generalize K[k] = X at hA8
          obtain ⟨t0, t1, t2, t3, t4, t5, t6, t7, t8⟩ := hA8.facts
          have q0 : (k : Int) < (m : Int) := by omega
          have hl1 : Lc.length < 1000000 := by omega
          have hl2 : Lc.length + 1 ≤ 20 + (k + 1) := by omega
          have HL1 := Lib.hid hl1
          have HL2 := Lib.hid hl2
          have HNF : Hid (¬ Foot sb vs wr.heap.size) := Lib.hid (fun h => by have := foot_lt B.S _ h; omega)
          have HND : Hid (¬ wr.heap.size = db) := Lib.hid (fun h => by have := B.D.box.lt; omega)
          have HKS : Hid (∀ x ∈ Lc, 0 ≤ x.K ∧ x.K ≤ 2) := Lib.hid (fun x hx => by have := (B.S.good x hx).k; omega)
          have HB := Lib.hid B
          have HAP := Lib.hid hap
          subst ea
          clear hA8 hkL B hap hle hl1 hl2
          go_upto_block 2 with fail
          refine at_world fun w4 hW => ?_
          have BA : Box w4 wr.heap.size [.int .i64 X.k, .int .i64 X.W.A.x, .int .i64 X.W.A.y, .int .i64 X.W.B.x, .int .i64 X.W.B.y, .int .i64 X.W.K, .int .i64 X.P.x, .int .i64 X.P.y] 37 := by rw [hW]; exact Box.new rfl
          have B4 : Pr w w4 sb db vs vm Lc Lc := by rw [hW]; exact HB.out.ext ((Below.refl _ wr).alloc (Nat.le_refl _) _)
          clear hW t0 t1 t2 t3 t4 t5 t6 t7 t8
          go_cut [] from 69 to 98 (fun wx => ∃ vs6 vm6 L6, Pr w wx sb db vs6 vm6 L6 L6 ∧ Apart L6 ∧ L6.length ≤ 20 + (k + 1) ∧ Box wx wr.heap.size [.int .i64 X.k, .int .i64 X.W.A.x, .int .i64 X.W.A.y, .int .i64 X.W.B.x, .int .i64 X.W.B.y, .int .i64 X.W.K, .int .i64 X.P.x, .int .i64 X.P.y] 37)
          case first =>
            have hCl : ∀ x y, Ext x y → Box x wr.heap.size [.int .i64 X.k, .int .i64 X.W.A.x, .int .i64 X.W.A.y, .int .i64 X.W.B.x, .int .i64 X.W.B.y, .int .i64 X.W.K, .int .i64 X.P.x, .int .i64 X.P.y] 37 → Box y wr.heap.size [.int .i64 X.k, .int .i64 X.W.A.x, .int .i64 X.W.A.y, .int .i64 X.W.B.x, .int .i64 X.W.B.y, .int .i64 X.W.K, .int .i64 X.P.x, .int .i64 X.P.y] 37 := fun x y h1 h2 => h2.ext h1 rfl
            cases e1 : (X.k == 1) with
            | true =>
              go_wp2_with fail

              refine FT.wp_region_flowC 8 (.run 0 (.run 1 (.run 2 (.run 4 (.run 5 (.run 6 (.alt 3 (.alt 7 (.tail) .stop) .stop))))))) rfl (by kernel_rfl) (fun _ x _ _ _ h => by cases x <;> exact h) (C := fun w' => Box w' wr.heap.size [.int .i64 X.k, .int .i64 X.W.A.x, .int .i64 X.W.A.y, .int .i64 X.W.B.x, .int .i64 X.W.B.y, .int .i64 X.W.K, .int .i64 X.P.x, .int .i64 X.P.y] 37) (fun _ h => BA.ext h rfl) hCl ?_
              (refine FT.flow_run rfl (fun K hK => ?_); go_simp; first | (refine hK _ ?_; clear hK K) | (refine ⟨_, fun _ _ => rfl, hK _ ?_⟩; clear hK K))
              (refine FT.flow_run rfl (fun K hK => ?_); go_simp; first | (refine hK _ ?_; clear hK K) | (refine ⟨_, fun _ _ => rfl, hK _ ?_⟩; clear hK K))
              refine FT.flow_run rfl (fun K hK => ?_)
              go_simp
              refine ⟨.agg #[.int .i64 X.W.A.x, .int .i64 X.W.A.y, .int .i64 X.W.B.x, .int .i64 X.W.B.y, .int .i64 X.W.K], fun wq hwq => ?_, hK _ ?_⟩
              · obtain ⟨x0, y0, z0, v0⟩ := Box.facts hwq
                go_simp
              clear hK K
              (refine FT.flow_run rfl (fun K hK => ?_); go_simp; first | (refine hK _ ?_; clear hK K) | (refine ⟨_, fun _ _ => rfl, hK _ ?_⟩; clear hK K))
              (refine FT.flow_run rfl (fun K hK => ?_); go_simp; first | (refine hK _ ?_; clear hK K) | (refine ⟨_, fun _ _ => rfl, hK _ ?_⟩; clear hK K))
              refine FT.flow_run rfl (fun K hK => ?_)
              go_simp
              refine ⟨.agg #[.int .i64 X.W.A.x, .int .i64 X.W.A.y, .int .i64 X.W.B.x, .int .i64 X.W.B.y, .int .i64 X.W.K], fun wq hwq => ?_, hK _ ?_⟩
              · obtain ⟨x0, y0, z0, v0⟩ := Box.facts hwq
                go_simp
              clear hK K
              refine FT.flow_at hCl rfl trivial (fun w5 hw5 K hK => ?_)
              have B5 := B4.ext hw5
              have BA5 := BA.ext hw5 rfl
              go_simp
              refine (add_any sb vs Lc X.W HL1.out w5 B5.S).mono ?_
              rintro e w6 ⟨v6, rfl, S6, hf6, hs6⟩
              have B6 := B5.addS S6 hf6 hs6 (Nat.le_succ _)
              have BA6 := hf6.box BA5 HNF.out
              go_simp
              refine hK _ _ BA6 ?_
              clear hK K S6 hf6 hs6
              refine FT.flow_at hCl rfl trivial (fun w7 hw7 K hK => ?_)
              have B7 := B6.ext hw7
              have BA7 := BA6.ext hw7 rfl
              go_simp
              refine (radd_any db vm Lc X.W HL1.out HKS.out w7 B7.D).mono ?_
              rintro e w8 ⟨r8, v8, L8, rfl, ha8, D8, hf8, hg8⟩
              obtain ⟨hr8, hL8, _⟩ := add_at HB.out.S.ris HB.out.S.good ha8
              subst hr8 hL8
              clear ha8
              have B8 := B7.addD D8 hf8 hg8
              have BA8 := hf8.box BA7 HND.out
              go_simp
              refine hK _ _ BA8 ?_
              clear hK K D8 hf8 hg8
              intro w9 hw9
              have B9 := B8.ext hw9
              have BA9 := BA8.ext hw9 rfl
              simp only [List.drop_succ_cons, List.drop_zero]
              have HAP9 : Hid (Apart (addL Lc X.W)) := Lib.hid (apart_add HB.out.S.good HAP.out)
              have HL9 : Hid ((addL Lc X.W).length ≤ 20 + (k + 1)) := Lib.hid (by
                have := HL2.out
                by_cases he : addE Lc X.W = 0
                · rw [addL_len he]; exact this
                · rw [addL_no he]; omega)
              have hze : (addE Lc X.W != addE Lc X.W) = false := by simp
              generalize addE Lc X.W = ze at *
              generalize addL Lc X.W = L9 at *
              have HB9 := Lib.hid B9
              have HBA9 := Lib.hid BA9
              clear B4 B5 B6 B7 B8 B9 BA BA5 BA6 BA7 BA8 BA9 hw5 hw7 hw9
              go_wp2_with fail
              go_meet
              exact ⟨_, _, _, HB9.out, HAP9.out, HL9.out, HBA9.out⟩
            | false =>
              cases e2 : (X.k == 2) with
              | true =>
                go_wp2_with fail

                refine FT.wp_region_flowC 16 (.run 0 (.run 1 (.run 2 (.run 3 (.run 4 (.run 5 (.run 6 (.run 8 (.run 9 (.run 10 (.run 11 (.run 12 (.run 13 (.run 14 (.alt 7 (.alt 15 (.tail) .stop) .stop))))))))))))))) rfl (by kernel_rfl) (fun _ x _ _ _ h => by cases x <;> exact h) (C := fun w' => Box w' wr.heap.size [.int .i64 X.k, .int .i64 X.W.A.x, .int .i64 X.W.A.y, .int .i64 X.W.B.x, .int .i64 X.W.B.y, .int .i64 X.W.K, .int .i64 X.P.x, .int .i64 X.P.y] 37) (fun _ h => BA.ext h rfl) hCl ?_
                (refine FT.flow_run rfl (fun K hK => ?_); go_simp; first | (refine hK _ ?_; clear hK K) | (refine ⟨_, fun _ _ => rfl, hK _ ?_⟩; clear hK K))
                (refine FT.flow_run rfl (fun K hK => ?_); go_simp; first | (refine hK _ ?_; clear hK K) | (refine ⟨_, fun _ _ => rfl, hK _ ?_⟩; clear hK K))
                (refine FT.flow_run rfl (fun K hK => ?_); go_simp; first | (refine hK _ ?_; clear hK K) | (refine ⟨_, fun _ _ => rfl, hK _ ?_⟩; clear hK K))
                refine FT.flow_run rfl (fun K hK => ?_)
                go_simp
                refine ⟨.agg #[.int .i64 X.W.A.x, .int .i64 X.W.A.y], fun wq hwq => ?_, hK _ ?_⟩
                · obtain ⟨x0, y0, z0, v0⟩ := Box.facts hwq
                  go_simp
                clear hK K
                (refine FT.flow_run rfl (fun K hK => ?_); go_simp; first | (refine hK _ ?_; clear hK K) | (refine ⟨_, fun _ _ => rfl, hK _ ?_⟩; clear hK K))
                (refine FT.flow_run rfl (fun K hK => ?_); go_simp; first | (refine hK _ ?_; clear hK K) | (refine ⟨_, fun _ _ => rfl, hK _ ?_⟩; clear hK K))
                refine FT.flow_run rfl (fun K hK => ?_)
                go_simp
                refine ⟨.agg #[.int .i64 X.W.B.x, .int .i64 X.W.B.y], fun wq hwq => ?_, hK _ ?_⟩
                · obtain ⟨x0, y0, z0, v0⟩ := Box.facts hwq
                  go_simp
                clear hK K
                (refine FT.flow_run rfl (fun K hK => ?_); go_simp; first | (refine hK _ ?_; clear hK K) | (refine ⟨_, fun _ _ => rfl, hK _ ?_⟩; clear hK K))
                (refine FT.flow_run rfl (fun K hK => ?_); go_simp; first | (refine hK _ ?_; clear hK K) | (refine ⟨_, fun _ _ => rfl, hK _ ?_⟩; clear hK K))
                (refine FT.flow_run rfl (fun K hK => ?_); go_simp; first | (refine hK _ ?_; clear hK K) | (refine ⟨_, fun _ _ => rfl, hK _ ?_⟩; clear hK K))
                refine FT.flow_run rfl (fun K hK => ?_)
                go_simp
                refine ⟨.agg #[.int .i64 X.W.A.x, .int .i64 X.W.A.y], fun wq hwq => ?_, hK _ ?_⟩
                · obtain ⟨x0, y0, z0, v0⟩ := Box.facts hwq
                  go_simp
                clear hK K
                (refine FT.flow_run rfl (fun K hK => ?_); go_simp; first | (refine hK _ ?_; clear hK K) | (refine ⟨_, fun _ _ => rfl, hK _ ?_⟩; clear hK K))
                (refine FT.flow_run rfl (fun K hK => ?_); go_simp; first | (refine hK _ ?_; clear hK K) | (refine ⟨_, fun _ _ => rfl, hK _ ?_⟩; clear hK K))
                refine FT.flow_run rfl (fun K hK => ?_)
                go_simp
                refine ⟨.agg #[.int .i64 X.W.B.x, .int .i64 X.W.B.y], fun wq hwq => ?_, hK _ ?_⟩
                · obtain ⟨x0, y0, z0, v0⟩ := Box.facts hwq
                  go_simp
                clear hK K
                refine FT.flow_at hCl rfl trivial (fun w5 hw5 K hK => ?_)
                have B5 := B4.ext hw5
                have BA5 := BA.ext hw5 rfl
                go_simp
                refine (rem_any sb vs Lc X.W.A X.W.B w5 B5.S).mono ?_
                rintro e w6 ⟨v6, rfl, S6, hf6, hs6⟩
                have B6 := B5.addS S6 hf6 hs6 (Nat.le_refl _)
                have BA6 := hf6.box BA5 HNF.out
                go_simp
                refine hK _ _ BA6 ?_
                clear hK K S6 hf6 hs6
                refine FT.flow_at hCl rfl trivial (fun w7 hw7 K hK => ?_)
                have B7 := B6.ext hw7
                have BA7 := BA6.ext hw7 rfl
                go_simp
                refine (rrem_any db vm Lc X.W.A X.W.B w7 B7.D).mono ?_
                rintro e w8 ⟨r8, v8, L8, rfl, ha8, D8, hf8, hg8⟩
                obtain ⟨hr8, hL8⟩ := rem_at HB.out.S.ris HAP.out HB.out.S.good ha8
                subst hr8 hL8
                clear ha8
                have B8 := B7.addD D8 hf8 hg8
                have BA8 := hf8.box BA7 HND.out
                go_simp
                refine hK _ _ BA8 ?_
                clear hK K D8 hf8 hg8
                intro w9 hw9
                have B9 := B8.ext hw9
                have BA9 := BA8.ext hw9 rfl
                simp only [List.drop_succ_cons, List.drop_zero]
                have hsub := rem_sub Lc (lo2 X.W.A X.W.B) (hi2 X.W.A X.W.B)
                have HAP9 : Hid (Apart (remL Lc (lo2 X.W.A X.W.B) (hi2 X.W.A X.W.B))) := Lib.hid (List.Pairwise.sublist hsub HAP.out)
                have HL9 : Hid ((remL Lc (lo2 X.W.A X.W.B) (hi2 X.W.A X.W.B)).length ≤ 20 + (k + 1)) := Lib.hid (by have := hsub.length_le; have := HL2.out; omega)
                clear hsub
                have hze : (remE Lc (lo2 X.W.A X.W.B) (hi2 X.W.A X.W.B) != remE Lc (lo2 X.W.A X.W.B) (hi2 X.W.A X.W.B)) = false := by simp
                generalize remE Lc (lo2 X.W.A X.W.B) (hi2 X.W.A X.W.B) = ze at *
                generalize remL Lc (lo2 X.W.A X.W.B) (hi2 X.W.A X.W.B) = L9 at *
                have HB9 := Lib.hid B9
                have HBA9 := Lib.hid BA9
                clear B4 B5 B6 B7 B8 B9 BA BA5 BA6 BA7 BA8 BA9 hw5 hw7 hw9
                go_wp2_with fail
                go_meet
                exact ⟨_, _, _, HB9.out, HAP9.out, HL9.out, HBA9.out⟩
              | false =>
                have HB9 := Lib.hid B4
                have HBA9 := Lib.hid BA
                clear B4 BA
                go_wp2_with fail
                go_meet
                exact ⟨_, _, _, HB9.out, HAP.out, by have := HL2.out; omega, HBA9.out⟩
          case rest =>
            obtain ⟨vs6, vm6, L9, B9, hap9, hl9, BA0⟩ := hcut
            have HAP9 := Lib.hid hap9
            have HL9 := Lib.hid hl9
            clear B4 BA HB HAP HNF HND HKS HL1 HL2 hap9 hl9
            have HLN : Hid (L9.length ≤ 1000000) := Lib.hid B9.S.le
            have BA := BA0
            clear BA0
            obtain ⟨a1, c1, hv1, R1⟩ := B9.S.rd
            obtain ⟨a2, c2r, hv2, R2, _⟩ := B9.D.rd
            have hv2k := hv2
            have HR2 := Lib.hid R2.row
            have hris := B9.S.ris
            have hgood := B9.S.good
            obtain ⟨V1, b1, hV1⟩ := onV_form ((bgL L9 X.P).find? (onW X.P))
            have cOn : ∀ W, Below wc.heap.size wc W → Calls Try.prog 14 #[.pointer (some ⟨sb, 0, none⟩), .agg #[.int .i64 X.P.x, .int .i64 X.P.y]] W fun e w' => e = .returned (.tuple #[.agg #[.int .i64 V1.A.x, .int .i64 V1.A.y, .int .i64 V1.B.x, .int .i64 V1.B.y, .int .i64 V1.K], .bool b1]) ∧ Below W.heap.size W w' := fun W hW => by
              rw [← hV1]; exact on_set_any sb a1 c1 L9.length L9 X.P W (R1.ext hW rfl)
            have cOnD : ∀ W, Below wc.heap.size wc W → Calls Try.prog 15 #[.pointer (some ⟨db, 0, none⟩), .agg #[.int .i64 X.P.x, .int .i64 X.P.y]] W fun e w' => e = .returned (.tuple #[.agg #[.int .i64 V1.A.x, .int .i64 V1.A.y, .int .i64 V1.B.x, .int .i64 V1.B.y, .int .i64 V1.K], .bool b1]) ∧ Below W.heap.size W w' := fun W hW => by
              rw [← hV1, ← on_find hris hgood]; exact ron_set_any db a2 c2r L9.length L9 X.P W (R2.ext hW rfl)
            have cMk := make_any X.W.A X.W.B X.W.K
            have cMkD := rmw_any X.W.A X.W.B X.W.K
            have cCl : ∀ W, Below wc.heap.size wc W → Calls Try.prog 18 #[.pointer (some ⟨sb, 0, none⟩), .agg #[.int .i64 X.W.A.x, .int .i64 X.W.A.y], .agg #[.int .i64 X.W.B.x, .int .i64 X.W.B.y]] W fun e w' => e = .returned (.int .i64 (clashW L9 X.W.A X.W.B)) ∧ Below W.heap.size W w' := fun W hW => clash_any sb a1 c1 L9.length L9 X.W.A X.W.B W (R1.ext hW rfl)
            have cClD : ∀ W, Below wc.heap.size wc W → Calls Try.prog 19 #[.pointer (some ⟨db, 0, none⟩), .agg #[.int .i64 X.W.A.x, .int .i64 X.W.A.y], .agg #[.int .i64 X.W.B.x, .int .i64 X.W.B.y]] W fun e w' => e = .returned (.int .i64 (clashW L9 X.W.A X.W.B)) ∧ Below W.heap.size W w' := fun W hW => by
              rw [← clashD_eq hgood]; exact rclash_any db a2 c2r L9.length L9 X.W.A X.W.B W (R2.ext hW rfl)
            have cKi : ∀ W, Below wc.heap.size wc W → Calls Try.prog 20 #[.pointer (some ⟨sb, 0, none⟩), .agg #[.int .i64 X.W.B.x, .int .i64 X.W.B.y], .agg #[.int .i64 X.W.A.x, .int .i64 X.W.A.y]] W fun e w' => e = .returned (.int .i64 (kindD L9 X.W.A X.W.B)) ∧ Below W.heap.size W w' := fun W hW => by
              rw [kindD_comm, kindD_eq hgood]; exact kind_any sb a1 c1 L9.length L9 X.W.B X.W.A W (R1.ext hW rfl)
            have cKiD : ∀ W, Below wc.heap.size wc W → Calls Try.prog 21 #[.pointer (some ⟨db, 0, none⟩), .agg #[.int .i64 X.W.A.x, .int .i64 X.W.A.y], .agg #[.int .i64 X.W.B.x, .int .i64 X.W.B.y]] W fun e w' => e = .returned (.int .i64 (kindD L9 X.W.A X.W.B)) ∧ Below W.heap.size W w' := fun W hW => rkind_any db a2 c2r L9.length L9 X.W.A X.W.B W (R2.ext hW rfl)
            have cAt : ∀ W, Below wc.heap.size wc W → Calls Try.prog 23 #[.pointer (some ⟨sb, 0, none⟩), .agg #[.int .i64 X.P.x, .int .i64 X.P.y]] W fun e w' => ∃ v', e = .returned v' ∧ WRow w' W.heap.size v' (L9.filter (endW X.P)) ∧ Below W.heap.size W w' := fun W hW => by
              rw [ends_eq hgood]; exact at_any sb a1 c1 L9.length L9 X.P W (R1.ext hW rfl)
            have cEn : ∀ W, Below wc.heap.size wc W → Calls Try.prog 24 #[.pointer (some ⟨db, 0, none⟩), .agg #[.int .i64 X.P.x, .int .i64 X.P.y]] W fun e w' => ∃ v', e = .returned v' ∧ WRow w' W.heap.size v' (L9.filter (endW X.P)) ∧ Below W.heap.size W w' := fun W hW => rends_any db a2 c2r L9.length L9 X.P W (R2.ext hW rfl)
            have cAll : ∀ W, Below wc.heap.size wc W → Calls Try.prog 25 #[.pointer (some ⟨sb, 0, none⟩)] W fun e w' => ∃ v', e = .returned v' ∧ WRow w' W.heap.size v' L9 ∧ Below W.heap.size W w' := fun W hW => all_any sb a1 c1 L9.length L9 W (R1.ext hW rfl)
            have cLen : ∀ W, Below wc.heap.size wc W → Calls Try.prog 26 #[.pointer (some ⟨sb, 0, none⟩)] W fun e w' => e = .returned (.int .i64 L9.length) ∧ Below W.heap.size W w' := fun W hW => len_any sb a1 c1 L9.length L9 W (R1.ext hW rfl)
            clear hV1 R1 hv1 hv2 hris hgood
            have hw : Below wc.heap.size wc wc := Below.refl _ _
            generalize mkW X.W.A X.W.B X.W.K = V2 at *
            generalize mkOk X.W.A X.W.B X.W.K = b2 at *
            generalize clashW L9 X.W.A X.W.B = zc at *
            generalize kindD L9 X.W.A X.W.B = zk at *
            obtain ⟨xA, yA, zA, vA⟩ := BA.facts
            go_wp2_with fail
            refine (cOn _ hw).mono ?_
            rintro e w21 ⟨rfl, hb⟩
            clear xA yA zA vA
            replace BA := BA.ext hb rfl
            replace hw := hw.trans (hb.mono hw.size)
            clear hb
            obtain ⟨xA, yA, zA, vA⟩ := BA.facts
            go_wp2_with fail
            refine at_call fun W22 hW => ?_
            obtain ⟨bkv, hbv⟩ : ∃ b, w21.heap.size = b := ⟨_, rfl⟩
            rw [hbv]
            have lAv := BA.lt
            rw [hbv] at lAv
            have fv := hw.size
            rw [hbv] at fv
            have Bv : Box W22 bkv [.int .i64 V1.A.x, .int .i64 V1.A.y, .int .i64 V1.B.x, .int .i64 V1.B.y, .int .i64 V1.K] 35 := by rw [hW]; exact Box.new hbv.symm
            replace BA : Box W22 (wr.heap.size) [.int .i64 X.k, .int .i64 X.W.A.x, .int .i64 X.W.A.y, .int .i64 X.W.B.x, .int .i64 X.W.B.y, .int .i64 X.W.K, .int .i64 X.P.x, .int .i64 X.P.y] 37 := by rw [hW]; exact BA.old _
            replace hw : Below wc.heap.size wc W22 := by have hl := hw.size; rw [hW]; go_grown
            clear hW hbv
            refine (cOnD _ hw).mono ?_
            rintro e w23 ⟨rfl, hb⟩
            clear xA yA zA vA
            replace BA := BA.ext hb rfl
            replace Bv := Bv.ext hb rfl
            replace hw := hw.trans (hb.mono hw.size)
            clear hb
            obtain ⟨xA, yA, zA, vA⟩ := BA.facts
            obtain ⟨xv, yv, zv, vv⟩ := Bv.facts
            go_wp2_with fail
            refine at_call fun W24 hW => ?_
            obtain ⟨bkx, hbx⟩ : ∃ b, w23.heap.size = b := ⟨_, rfl⟩
            rw [hbx]
            have lAx := BA.lt
            rw [hbx] at lAx
            have lvx := Bv.lt
            rw [hbx] at lvx
            have fx := hw.size
            rw [hbx] at fx
            have Bx : Box W24 bkx [.int .i64 V1.A.x, .int .i64 V1.A.y, .int .i64 V1.B.x, .int .i64 V1.B.y, .int .i64 V1.K] 35 := by rw [hW]; exact Box.new hbx.symm
            replace BA : Box W24 (wr.heap.size) [.int .i64 X.k, .int .i64 X.W.A.x, .int .i64 X.W.A.y, .int .i64 X.W.B.x, .int .i64 X.W.B.y, .int .i64 X.W.K, .int .i64 X.P.x, .int .i64 X.P.y] 37 := by rw [hW]; exact BA.old _
            replace Bv : Box W24 (bkv) [.int .i64 V1.A.x, .int .i64 V1.A.y, .int .i64 V1.B.x, .int .i64 V1.B.y, .int .i64 V1.K] 35 := by rw [hW]; exact Bv.old _
            replace hw : Below wc.heap.size wc W24 := by have hl := hw.size; rw [hW]; go_grown
            clear hW hbx
            refine (cMk _).mono ?_
            rintro e w25 ⟨rfl, hb⟩
            clear xA yA zA vA xv yv zv vv
            replace BA := BA.ext hb rfl
            replace Bv := Bv.ext hb rfl
            replace Bx := Bx.ext hb rfl
            replace hw := hw.trans (hb.mono hw.size)
            clear hb
            obtain ⟨xA, yA, zA, vA⟩ := BA.facts
            obtain ⟨xv, yv, zv, vv⟩ := Bv.facts
            obtain ⟨xx, yx, zx, vx⟩ := Bx.facts
            go_wp2_with fail
            refine at_call fun W26 hW => ?_
            obtain ⟨bky, hby⟩ : ∃ b, w25.heap.size = b := ⟨_, rfl⟩
            rw [hby]
            have lAy := BA.lt
            rw [hby] at lAy
            have lvy := Bv.lt
            rw [hby] at lvy
            have lxy := Bx.lt
            rw [hby] at lxy
            have fy := hw.size
            rw [hby] at fy
            have By : Box W26 bky [.int .i64 V2.A.x, .int .i64 V2.A.y, .int .i64 V2.B.x, .int .i64 V2.B.y, .int .i64 V2.K] 35 := by rw [hW]; exact Box.new hby.symm
            replace BA : Box W26 (wr.heap.size) [.int .i64 X.k, .int .i64 X.W.A.x, .int .i64 X.W.A.y, .int .i64 X.W.B.x, .int .i64 X.W.B.y, .int .i64 X.W.K, .int .i64 X.P.x, .int .i64 X.P.y] 37 := by rw [hW]; exact BA.old _
            replace Bv : Box W26 (bkv) [.int .i64 V1.A.x, .int .i64 V1.A.y, .int .i64 V1.B.x, .int .i64 V1.B.y, .int .i64 V1.K] 35 := by rw [hW]; exact Bv.old _
            replace Bx : Box W26 (bkx) [.int .i64 V1.A.x, .int .i64 V1.A.y, .int .i64 V1.B.x, .int .i64 V1.B.y, .int .i64 V1.K] 35 := by rw [hW]; exact Bx.old _
            replace hw : Below wc.heap.size wc W26 := by have hl := hw.size; rw [hW]; go_grown
            clear hW hby
            refine (cMkD _).mono ?_
            rintro e w27 ⟨rfl, hb⟩
            clear xA yA zA vA xv yv zv vv xx yx zx vx
            replace BA := BA.ext hb rfl
            replace Bv := Bv.ext hb rfl
            replace Bx := Bx.ext hb rfl
            replace By := By.ext hb rfl
            replace hw := hw.trans (hb.mono hw.size)
            clear hb
            obtain ⟨xA, yA, zA, vA⟩ := BA.facts
            obtain ⟨xv, yv, zv, vv⟩ := Bv.facts
            obtain ⟨xx, yx, zx, vx⟩ := Bx.facts
            obtain ⟨xy, yy, zy, vy⟩ := By.facts
            go_wp2_with fail
            refine at_world fun W28 hW => ?_
            obtain ⟨bkz, hbz⟩ : ∃ b, w27.heap.size = b := ⟨_, rfl⟩
            rw [hbz]
            have lAz := BA.lt
            rw [hbz] at lAz
            have lvz := Bv.lt
            rw [hbz] at lvz
            have lxz := Bx.lt
            rw [hbz] at lxz
            have lyz := By.lt
            rw [hbz] at lyz
            have fz := hw.size
            rw [hbz] at fz
            have Bz : Box W28 bkz [.int .i64 V2.A.x, .int .i64 V2.A.y, .int .i64 V2.B.x, .int .i64 V2.B.y, .int .i64 V2.K] 35 := by rw [hW]; exact Box.new hbz.symm
            replace BA : Box W28 (wr.heap.size) [.int .i64 X.k, .int .i64 X.W.A.x, .int .i64 X.W.A.y, .int .i64 X.W.B.x, .int .i64 X.W.B.y, .int .i64 X.W.K, .int .i64 X.P.x, .int .i64 X.P.y] 37 := by rw [hW]; exact BA.old _
            replace Bv : Box W28 (bkv) [.int .i64 V1.A.x, .int .i64 V1.A.y, .int .i64 V1.B.x, .int .i64 V1.B.y, .int .i64 V1.K] 35 := by rw [hW]; exact Bv.old _
            replace Bx : Box W28 (bkx) [.int .i64 V1.A.x, .int .i64 V1.A.y, .int .i64 V1.B.x, .int .i64 V1.B.y, .int .i64 V1.K] 35 := by rw [hW]; exact Bx.old _
            replace By : Box W28 (bky) [.int .i64 V2.A.x, .int .i64 V2.A.y, .int .i64 V2.B.x, .int .i64 V2.B.y, .int .i64 V2.K] 35 := by rw [hW]; exact By.old _
            replace hw : Below wc.heap.size wc W28 := by have hl := hw.size; rw [hW]; go_grown
            clear hW hbz
            clear xA yA zA vA xv yv zv vv xx yx zx vx xy yy zy vy
            have gA := BA.cells
            have gv := Bv.cells
            have gx := Bx.cells
            have gy := By.cells
            have gz := Bz.cells
            have BD := B9.D.box.ext hw rfl
            rw [hv2k] at BD
            have gD := BD.cells
            have w1q : weqI V1.A.x V1.A.y V1.B.x V1.B.y V1.K V1.A.x V1.A.y V1.B.x V1.B.y V1.K = true := weqI_iff.2 rfl
            have w2q : weqI V2.A.x V2.A.y V2.B.x V2.B.y V2.K V2.A.x V2.A.y V2.B.x V2.B.y V2.K = true := weqI_iff.2 rfl
            have HWW := Lib.hid hw
            have HB9 := Lib.hid B9
            clear hw B9 cOn cOnD cMk cMkD BD BA Bv Bx By Bz
            as_aux_lemma =>
              try simp only [List.append]
              have hcB : ∀ w', (∃ p : Regrown, w' = grow (redrawn W28 p.d) p.os) → Below W28.heap.size W28 w' := fun w' h => by obtain ⟨p, rfl⟩ := h; exact below_regrown _ _ _
              refine FT.wp_region_flow 87 (.run 0 (.run 1 (.run 2 (.run 3 (.run 4 (.run 5 (.run 6 (.run 7 (.run 8 (.run 9 (.run 10 (.run 11 (.run 12 (.run 13 (.run 14 (.run 15 (.run 16 (.run 17 (.run 18 (.run 19 (.run 20 (.run 21 (.run 22 (.run 23 (.run 24 (.run 25 (.run 27 (.run 28 (.run 29 (.run 30 (.run 31 (.run 32 (.run 33 (.alt 26 (.alt 34 (.run 35 (.run 36 (.run 37 (.run 38 (.run 39 (.run 40 (.run 41 (.run 42 (.run 43 (.run 44 (.run 46 (.run 47 (.run 48 (.run 49 (.run 50 (.run 51 (.run 52 (.alt 45 (.alt 53 (.run 54 (.run 55 (.run 56 (.run 57 (.run 58 (.run 59 (.run 61 (.run 62 (.run 63 (.alt 60 (.alt 64 (.alt 65 (.run 66 (.run 67 (.run 68 (.run 69 (.run 71 (.run 72 (.run 73 (.run 74 (.alt 70 (.alt 75 (.run 76 (.run 77 (.run 78 (.run 79 (.run 81 (.run 82 (.run 83 (.run 84 (.run 85 (.alt 80 (.run 86 (.tail)) .stop)))))))))) .stop) .stop))))))))) .stop) .stop) .stop)))))))))) .stop) .stop)))))))))))))))))) .stop) .stop)))))))))))))))))))))))))))))))))) rfl (by as_aux_lemma => kernel_rfl) (fun _ x _ _ _ h => by cases x <;> exact h) (C := fun w' => ∃ p : Regrown, w' = grow (redrawn W28 p.d) p.os) (fun _ h => regrown_of_below h) hcB ?_
              have hC : ∀ x y, Ext x y → (∃ p : Regrown, x = grow (redrawn W28 p.d) p.os) → (∃ p : Regrown, y = grow (redrawn W28 p.d) p.os) := fun x y h1 h2 => regrown_of_below ((hcB x h2).trans (h1.mono (hcB x h2).size))
              as_aux_lemma =>
               iterate 9 (refine FT.flow_run rfl (fun K hK => ?_); go_simp; first | (refine hK _ ?_; clear hK K) | (apply Exists.intro; refine ⟨fun _ => ?_, hK _ ?_⟩; rotate_left; clear hK K))
               as_aux_lemma =>
                iterate 9 (refine FT.flow_run rfl (fun K hK => ?_); go_simp; first | (refine hK _ ?_; clear hK K) | (apply Exists.intro; refine ⟨fun _ => ?_, hK _ ?_⟩; rotate_left; clear hK K))
                as_aux_lemma =>
                 iterate 9 (refine FT.flow_run rfl (fun K hK => ?_); go_simp; first | (refine hK _ ?_; clear hK K) | (apply Exists.intro; refine ⟨fun _ => ?_, hK _ ?_⟩; rotate_left; clear hK K))
                 as_aux_lemma =>
                  iterate 6 (refine FT.flow_run rfl (fun K hK => ?_); go_simp; first | (refine hK _ ?_; clear hK K) | (apply Exists.intro; refine ⟨fun _ => ?_, hK _ ?_⟩; rotate_left; clear hK K))
                  as_aux_lemma =>
                   refine FT.flow_at hC rfl trivial (fun u1a hu1 K hK => ?_)
                   have hx1 : Below W28.heap.size W28 u1a := hu1
                   have hq1 := HWW.out.trans (hx1.mono HWW.out.size)
                   go_simp
                   refine (cCl _ hq1).mono ?_
                   rintro e u1b ⟨rfl, hb1⟩
                   have hy1 := hx1.trans (hb1.mono hx1.size)
                   go_simp
                   refine hK _ _ (regrown_of_below hy1) ?_
                   clear hK K hb1 hu1
                   as_aux_lemma =>
                    refine FT.flow_at hC rfl trivial (fun u2a hu2 K hK => ?_)
                    have hx2 : Below W28.heap.size W28 u2a := hy1.trans (hu2.mono hy1.size)
                    have hq2 := HWW.out.trans (hx2.mono HWW.out.size)
                    go_simp
                    refine (cClD _ hq2).mono ?_
                    rintro e u2b ⟨rfl, hb2⟩
                    have hy2 := hx2.trans (hb2.mono hx2.size)
                    go_simp
                    refine hK _ _ (regrown_of_below hy2) ?_
                    clear hK K hb2 hu2
                    as_aux_lemma =>
                     iterate 9 (refine FT.flow_run rfl (fun K hK => ?_); go_simp; first | (refine hK _ ?_; clear hK K) | (apply Exists.intro; refine ⟨fun _ => ?_, hK _ ?_⟩; rotate_left; clear hK K))
                     as_aux_lemma =>
                      iterate 8 (refine FT.flow_run rfl (fun K hK => ?_); go_simp; first | (refine hK _ ?_; clear hK K) | (apply Exists.intro; refine ⟨fun _ => ?_, hK _ ?_⟩; rotate_left; clear hK K))
                      as_aux_lemma =>
                       refine FT.flow_at hC rfl trivial (fun u3a hu3 K hK => ?_)
                       have hx3 : Below W28.heap.size W28 u3a := hy2.trans (hu3.mono hy2.size)
                       have hq3 := HWW.out.trans (hx3.mono HWW.out.size)
                       go_simp
                       refine (cKi _ hq3).mono ?_
                       rintro e u3b ⟨rfl, hb3⟩
                       have hy3 := hx3.trans (hb3.mono hx3.size)
                       go_simp
                       refine hK _ _ (regrown_of_below hy3) ?_
                       clear hK K hb3 hu3
                       as_aux_lemma =>
                        refine FT.flow_at hC rfl trivial (fun u4a hu4 K hK => ?_)
                        have hx4 : Below W28.heap.size W28 u4a := hy3.trans (hu4.mono hy3.size)
                        have hq4 := HWW.out.trans (hx4.mono HWW.out.size)
                        go_simp
                        refine (cKiD _ hq4).mono ?_
                        rintro e u4b ⟨rfl, hb4⟩
                        have hy4 := hx4.trans (hb4.mono hx4.size)
                        go_simp
                        refine hK _ _ (regrown_of_below hy4) ?_
                        clear hK K hb4 hu4
                        as_aux_lemma =>
                         iterate 9 (refine FT.flow_run rfl (fun K hK => ?_); go_simp; first | (refine hK _ ?_; clear hK K) | (apply Exists.intro; refine ⟨fun _ => ?_, hK _ ?_⟩; rotate_left; clear hK K))
                         as_aux_lemma =>
                          refine FT.flow_at hC rfl trivial (fun u5a hu5 K hK => ?_)
                          have hx5 : Below W28.heap.size W28 u5a := hy4.trans (hu5.mono hy4.size)
                          have hq5 := HWW.out.trans (hx5.mono HWW.out.size)
                          go_simp
                          refine (cAt _ hq5).mono ?_
                          rintro e u5b ⟨vp, rfl, hrp, hb5⟩
                          obtain ⟨ap, cp, hvp, rowp, _⟩ := hrp.row
                          subst hvp
                          clear hrp
                          have hy5 := hx5.trans (hb5.mono hx5.size)
                          go_simp
                          refine hK _ _ (regrown_of_below hy5) ?_
                          clear hK K hb5 hu5
                          as_aux_lemma =>
                           refine FT.flow_at hC rfl trivial (fun u6a hu6 K hK => ?_)
                           have hx6 : Below W28.heap.size W28 u6a := hy5.trans (hu6.mono hy5.size)
                           have hq6 := HWW.out.trans (hx6.mono HWW.out.size)
                           replace rowp := rowp.ext hu6 rfl
                           go_simp
                           refine (cEn _ hq6).mono ?_
                           rintro e u6b ⟨vq, rfl, hrq, hb6⟩
                           obtain ⟨aq, cq, hvq, rowq, _⟩ := hrq.row
                           subst hvq
                           clear hrq
                           have hy6 := hx6.trans (hb6.mono hx6.size)
                           replace rowp := rowp.ext hb6 rfl
                           go_simp
                           refine hK _ _ (regrown_of_below hy6) ?_
                           clear hK K hb6 hu6
                           as_aux_lemma =>
                            refine FT.flow_at hC rfl trivial (fun u7a hu7 K hK => ?_)
                            have hx7 : Below W28.heap.size W28 u7a := hy6.trans (hu7.mono hy6.size)
                            have hq7 := HWW.out.trans (hx7.mono HWW.out.size)
                            replace rowp := rowp.ext hu7 rfl
                            replace rowq := rowq.ext hu7 rfl
                            go_simp
                            have cal := alike_W ap aq cp cq (L9.filter (endW X.P)) (L9.filter (endW X.P)) u7a rowp rowq (Nat.le_trans (List.length_filter_le _ _) HLN.out)
                            rw [decide_eq_true rfl] at cal
                            refine cal.mono ?_
                            rintro e u7b ⟨rfl, hb7⟩
                            clear cal rowp rowq
                            have hy7 := hx7.trans (hb7.mono hx7.size)
                            go_simp
                            refine hK _ _ (regrown_of_below hy7) ?_
                            clear hK K hb7 hu7
                            as_aux_lemma =>
                             iterate 8 (refine FT.flow_run rfl (fun K hK => ?_); go_simp; first | (refine hK _ ?_; clear hK K) | (apply Exists.intro; refine ⟨fun _ => ?_, hK _ ?_⟩; rotate_left; clear hK K))
                             as_aux_lemma =>
                              refine FT.flow_at hC rfl trivial (fun u8a hu8 K hK => ?_)
                              have hx8 : Below W28.heap.size W28 u8a := hy7.trans (hu8.mono hy7.size)
                              have hq8 := HWW.out.trans (hx8.mono HWW.out.size)
                              go_simp
                              refine (cAll _ hq8).mono ?_
                              rintro e u8b ⟨vl, rfl, hrl, hb8⟩
                              obtain ⟨al, cl, hvl, rowl, _⟩ := hrl.row
                              subst hvl
                              clear hrl
                              have hy8 := hx8.trans (hb8.mono hx8.size)
                              go_simp
                              refine hK _ _ (regrown_of_below hy8) ?_
                              clear hK K hb8 hu8
                              as_aux_lemma =>
                               refine FT.flow_at hC rfl trivial (fun u9a hu9 K hK => ?_)
                               have hx9 : Below W28.heap.size W28 u9a := hy8.trans (hu9.mono hy8.size)
                               have hq9 := HWW.out.trans (hx9.mono HWW.out.size)
                               replace rowl := rowl.ext hu9 rfl
                               go_simp
                               have cal := alike_W al a2 cl c2r L9 L9 u9a rowl (HR2.out.ext hq9 rfl) HLN.out
                               rw [decide_eq_true rfl] at cal
                               refine cal.mono ?_
                               rintro e u9b ⟨rfl, hb9⟩
                               clear cal rowl
                               have hy9 := hx9.trans (hb9.mono hx9.size)
                               go_simp
                               refine hK _ _ (regrown_of_below hy9) ?_
                               clear hK K hb9 hu9
                               as_aux_lemma =>
                                iterate 9 (refine FT.flow_run rfl (fun K hK => ?_); go_simp; first | (refine hK _ ?_; clear hK K) | (apply Exists.intro; refine ⟨fun _ => ?_, hK _ ?_⟩; rotate_left; clear hK K))
                                as_aux_lemma =>
                                 refine FT.flow_at hC rfl trivial (fun u10a hu10 K hK => ?_)
                                 have hx10 : Below W28.heap.size W28 u10a := hy9.trans (hu10.mono hy9.size)
                                 have hq10 := HWW.out.trans (hx10.mono HWW.out.size)
                                 go_simp
                                 refine (cLen _ hq10).mono ?_
                                 rintro e u10b ⟨rfl, hb10⟩
                                 have hy10 := hx10.trans (hb10.mono hx10.size)
                                 go_simp
                                 refine hK _ _ (regrown_of_below hy10) ?_
                                 clear hK K hb10 hu10
                                 as_aux_lemma =>
                                  iterate 1 (refine FT.flow_run rfl (fun K hK => ?_); go_simp; first | (refine hK _ ?_; clear hK K) | (apply Exists.intro; refine ⟨fun _ => ?_, hK _ ?_⟩; rotate_left; clear hK K))
                                  intro wz hwz
                                  have BZ := (HB9.out.ext HWW.out).ext ((hy10.trans (hwz.mono hy10.size)))
                                  simp only [List.drop_succ_cons, List.drop_zero]
                                  clear gA gv gx gy gz gD
                                  have HBZ := Lib.hid BZ
                                  clear BZ
                                  go_wp2
                                  go_roundw
                                  case rel => first | exact ⟨k + 1, L9, _, _, hkm, by go_num, HBZ.out, HAP9.out, HL9.out⟩ | ((repeat apply Exists.intro); exact ⟨⟨k + 1, L9, _, _, hkm, by go_num, HBZ.out, HAP9.out, HL9.out⟩, rfl⟩)
                                  case measure => simp [intOf]; omega
        · obtain rfl : k = m := by omega
          have HW := Lib.hid B.hw
          clear B hap hle
          go_wp2_with fail
          refine (awake_any wr).mono ?_
          rintro e w2 ⟨rfl, hb⟩
          have HW2 := Lib.hid (HW.out.trans (hb.mono HW.out.size))
          clear hb
          go_wp2
          go_ret
          exact ⟨rfl, HW2.out⟩
theorem wa_any (a a3 : Option Addr) (c n c2 m : Nat) (L : List Wl) (K : List Ac) (hn : L.length = n) (hm : K.length = m) (hfl : Flat a) (hz : a = none → L = []) (w : World) (Hr : RowAt cW 5 w a L) (Hk : RowAt cA 8 w a3 K) : Calls Try.prog 3 #[.slice a n c, .slice a3 m c2] w fun e w' => e = .returned (.bool true) ∧ Below w.heap.size w w' := by
  by_cases h : 20 < n ∨ 40 < m
  · exact wa_big a a3 c n c2 m h w
  · exact wa_main a a3 c n c2 m L K hn (by omega) hm (by omega) hfl hz w Hr Hk
set_option maxRecDepth 100000 in
theorem wallsActs_lifted (os : Os) (started : os.Started) (H : Type) (enc : TypeId × Value → H) :
    ReturnsInHanded {} Try.checked os 3 .any (Rows.wallsActsSpec.pre6 enc Try.prog Try.f3 Rows.wallsActsRow.domain false) (Rows.wallsActsSpec.post enc Try.prog Try.f3 false true false false) := by
  refine returnsInHanded_of_change (C := Try.checked) Try.own started (by kernel_rfl) Try.func3
    (ChangeSpec.witness6 (enc := enc) (C := Try.checked) false ⟨#[], #[.slice none 0 0, .slice none 0 0], []⟩ 8 (by kernel_rfl) (by kernel_rfl) (by kernel_rfl) (by kernel_rfl)) ?_
  intro W base args ds gs before hval0 hW hcnd _
  have hval : ∀ (j : Nat) t v, Try.f3.params[j]? = some t → args[j]? = some v → Value.okWide Try.prog W .any base t v := hval0
  have hW' := hW
  obtain ⟨p, q, hA0, hV, rfl, hfz, hnd⟩ := hW
  have hA : DataW.TrodAll enc Try.prog W 0 (fun _ => true) true Try.f3.params.toList args.toList ds p := hA0
  rw [Try.params3] at hA hval
  obtain ⟨v0, v1, d0, d1, q0, q1, rfl, rfl, rfl, p0, p1⟩ := trodAll_two hA
  obtain ⟨rfl, rfl⟩ := trodVars_none hV
  have p0k := p0
  have p1k := p1
  obtain ⟨a0, n0, cap0, L, rfl, hL, hrow⟩ := open_rowW (hval 0 22 v0 rfl rfl) p0
  obtain ⟨a1, n1, cap1, K, rfl, hK, hrowK⟩ := open_rowA (hval 1 23 v1 rfl rfl) p1
  have hv0 := hval 0 22 _ rfl rfl
  have hfl : Flat a0 := okWide_flat Try.underlying22 hv0
  have hz : a0 = none → L = [] := fun e => by
    cases L with
    | nil => rfl
    | cons x L => obtain ⟨ad, h1, _⟩ := hrow 0 x rfl; rw [e] at h1; cases h1
  clear hA0 hval0
  simp only [List.append_nil] at hW'
  refine (wa_any a0 a1 cap0 n0 cap1 n1 L K hL hK hfl hz W hrow hrowK).mono fun e W' ⟨he, hb⟩ => ?_
  subst he
  exact ⟨_, rfl, post_of_below (pa := q0 ++ q1) (pv := []) hW' (fun _ _ _ => trodAll_mk1 (shut_bool Try.underlying4 true)) (fun sp hsp => by
    have h := trodAll_mk2 (P := Try.prog) (enc := enc) (w := W') (base := 0) (spare := sp) (held := true) (WideElems.Trod_stays (by kernel_rfl) (by kernel_rfl) (of_decide_eq_true (by kernel_rfl)) p0k (fun x hx => hb.same (by simpa using hW'.lt x (by simpa using Or.inl hx))) (fun x hx => hsp x (by simpa using Or.inl hx))) (WideElems.Trod_stays (by kernel_rfl) (by kernel_rfl) (of_decide_eq_true (by kernel_rfl)) p1k (fun x hx => hb.same (by simpa using hW'.lt x (by simpa using Or.inr hx))) (fun x hx => hsp x (by simpa using Or.inr hx)))
    exact h) (fun _ _ => rfl) (by simp) hb (ok_one (by kernel_rfl) rfl (okWide_bool_mk Try.underlying4 true))⟩
/-- The law WallsActs holds of every input. -/
theorem wallsActs_holds : Rows.WallsActsSaid :=
  OpenClaim.holds_of_wide 3 Try.f3 rfl rfl rfl rfl rfl rfl rfl ⟨rfl, rfl, rfl, rfl, rfl⟩ rfl rfl rfl rfl rfl (by kernel_rfl) Try.func3 (by kernel_rfl)
    (of_decide_eq_true (by kernel_rfl)) (by unfold Func.isWrapper; rw [if_neg (of_decide_eq_false (by kernel_rfl))]; exact ⟨rfl, rfl⟩)
    (fun os started H enc _ => wallsActs_lifted os started H enc)
end Go.Proofs.Ytnocdecimcpkfaa
