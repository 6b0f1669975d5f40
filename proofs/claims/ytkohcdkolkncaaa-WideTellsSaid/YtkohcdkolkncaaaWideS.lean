/- The contracts of package wide's and of the document's own sums, differences, opposites, signs and order, over the program. -/
import Derived.Test.YtkohcdkolkncaaaRows
import Derived.Test.YtkohcdkolkncaaaWideQ
import Derived.Test.YtkohcdkolkncaaaWideN
import Derived.Test.YtkohcdkolkncaaaRegion
import Derived.WalkKit
import Derived.WalkSpells
import Derived.WalkLawsBesides
import Derived.Laws.Externs
import Derived.Deep.QuietTactic
import Derived.BigQuiet
import Derived.Lib.Hide
import Derived.Handy
import Derived.Laws.BytesArg
import Derived.Lib.Strings
import Derived.Lib.IndexBytes
import Derived.Laws.MathBits
namespace Go.Proofs.Ytkohcdkolkncaaa
open Go.RowKit
attribute [local go_sem] rOper rAt rUpon cell_set sg_i64 sg_u64 alloc_cell alloc_frozen

def bv (c : UInt8) : Value := .int .u8 c.toNat
/-- What holds at the head of a round of Text's loop: m places are left; u is what is left of U, suf what has been written. -/
def TextRel (w : World) (h l : Int) (U : Nat) (a b i : Value) (wr : World) : Prop :=
  ∃ (m u k : Nat) (suf : List UInt8), m + k = 40 ∧ k ≤ 39 ∧ a = .int .u64 ((u : Int) / 18446744073709551616) ∧ b = .int .u64 ((u : Int) % 18446744073709551616) ∧ i = .int .i64 m ∧ u < 10 ^ (39 - k) ∧ u ≤ 170141183460469231731687303715884105728 ∧
    suf.length = k ∧ decF 40 U = decF m u ++ suf ∧ Box wr w.heap.size [.int .i64 h, .int .u64 l] 24 ∧ Box wr (w.heap.size + 1) (List.replicate m (.int .u8 0) ++ suf.map bv) 62 ∧ Below w.heap.size w wr
theorem slice_row (b m : Nat) (hm : m ≤ 39) (W : World) : (Instr.sliceAt 62 (.pointer (some ⟨b, 0, none⟩)) (some (.int .i64 (m : Int))) none none).run Try.prog W = .ok (.slice (some ⟨b, m, none⟩) (40 - m) (40 - m)) W := by
  have e : Try.prog.arrayLen 62 = 40 := by kernel_rfl
  rw [run_sliceAt_array_l W 62 ⟨b, 0, none⟩ (by kernel_rfl) .i64 (m : Int) (by omega) (by rw [e]; omega), e]
  have e2 : (sizeOf (Try.prog.elem 62)).run Try.prog W = .ok 1 W := by kernel_rfl
  rw [e2]
  have h1 : ¬ (40 = m) := by omega
  simp [Result.andThen, slicedAt, Addr.add, h1]
  intro h; exact h.symm
theorem row_cell {wr : World} {b m : Nat} {suf : List UInt8} {T : TypeId} (B : Box wr b (List.replicate m (.int .u8 0) ++ suf.map bv) T) (hm : m + suf.length = 40) :
    ∀ i, i < 40 - m → wr.cell? ⟨b, m + i, none⟩ = some (.int .u8 ((suf.map fun c => (c.toNat : Int)).getD i 0)) := by
  intro i hi
  rw [B.facts.1, List.getElem?_append_right (by simp)]
  have hi2 : i < suf.length := by omega
  simp [bv, List.getD, List.getElem?_eq_getElem hi2]
theorem str_nums (suf : List UInt8) : strOfNums (suf.map fun c => (c.toNat : Int)) = ⟨suf.toArray⟩ := by
  apply WideShapes.bytes_inj
  rw [strOfNums_data, List.map_map]
  have h : ∀ c ∈ suf, ((fun n : Int => UInt8.ofNat n.toNat) ∘ fun c : UInt8 => (c.toNat : Int)) c = id c := fun c _ => by simp
  rw [List.map_congr_left h]
  simp
theorem text_pos1 (h l : Int) (k : Ok h l) (hz : ¬ h = 0) (hp : 0 < V h l) (w : World) :
    Calls Try.prog 21 #[.agg #[.int .i64 h, .int .u64 l]] w fun e w' => e = .returned (.string ⟨(textV (V h l)).toArray⟩) ∧ Below w.heap.size w w' := by
  have h0 : 0 ≤ h := by obtain ⟨a, b, c, d⟩ := k; unfold V at hp; omega
  have hh := k.h1
  have l0 := k.l0
  have l1 := k.l1
  obtain ⟨U, hU⟩ := Int.eq_ofNat_of_zero_le (Int.le_of_lt hp)
  have HP := Lib.hid hp
  have HU := Lib.hid hU
  have hUb : U < 10 ^ 39 := by
    have := fits_V k
    rw [fits_iff] at this
    have e : (10 : Nat) ^ 39 = 1000000000000000000000000000000000000000 := rfl
    omega
  have HUB := Lib.hid hUb
  have HU2 : Hid (U ≤ 170141183460469231731687303715884105728) := by
    have := fits_V k
    rw [fits_iff] at this
    have h2 : U ≤ 170141183460469231731687303715884105728 := by omega
    exact h2
  have s3 : (h : Int) = (U : Int) / 18446744073709551616 := by have := hU; unfold V at this; omega
  have s4 : l = (U : Int) % 18446744073709551616 := by have := hU; unfold V at this; omega
  have S3 := Lib.hid s3; have S4 := Lib.hid s4
  clear hp hU hUb s3 s4
  go_enter Try.func21, Try.ntmps21
  go_wp2
  go_quiet (fail)
  go_wp2
  go_loopw [3, 4, 6] (TextRel w h l U) (fun _ _ i _ => (intOf i).toNat)
  case atStart =>
    refine ⟨40, U, 0, [], rfl, by omega, by rw [← S3.out], by rw [← S4.out], rfl, HUB.out, HU2.out, rfl, by simp, (Box.new (cs := [.int .i64 h, .int .u64 l]) rfl).old _, ?_, ?_⟩
    · exact Box.new (by simp)
    · exact ((Below.refl _ _).alloc (Nat.le_refl _) _).trans ((below_drewN _ _).mono (by simp)) |>.alloc (by simp) _
  case round =>
    obtain ⟨m, u, kk, suf, hmk, hk39, rfl, rfl, rfl, hub, hub1, hsl, hdec, B0, B1, hw⟩ := hrel
    have HD := Lib.hid hdec
    have HSL := Lib.hid hsl
    have HUB2 := Lib.hid hub
    have HMK := Lib.hid hmk
    obtain ⟨x0, y0, z0, v0⟩ := B0.facts
    have hl := hw.size
    by_cases hu : u = 0
    · have m1 : 1 ≤ m := by omega
      have m40 : m ≤ 40 := by omega
      subst hu
      clear hdec hub hub1 hsl hmk
      rw [show ((0 : Nat) : Int) / 18446744073709551616 = 0 from rfl, show ((0 : Nat) : Int) % 18446744073709551616 = 0 from rfl]
      have hkk : 1 ≤ kk := by
        rcases Nat.lt_or_ge 0 kk with h9 | h9
        · exact h9
        · exfalso
          have hs0 : suf = [] := List.length_eq_zero_iff.1 (by rw [HSL.out]; omega)
          have hd0 := HD.out
          rw [hs0, decF_zero] at hd0
          have hun : U ≠ 0 := by have h1 := HP.out; have h2 := HU.out; omega
          rw [decF_step 39 U hun] at hd0
          simp at hd0
      have m39 : m ≤ 39 := by have := HMK.out; omega
      have hsl := slice_row (w.heap.size + 1) m m39
      have ecv := run_convert_bytes_arg (P := Try.prog) wr 65 5 (by kernel_rfl) (by kernel_rfl) (w.heap.size + 1) m (40 - m) (40 - m) (suf.map fun c => (c.toNat : Int)) (by simp; have := HSL.out; have := HMK.out; omega) (row_cell B1 (by rw [HSL.out]; exact HMK.out)) 9 (by kernel_rfl)
      go_wp2
      go_ret
      refine ⟨?_, hw⟩
      rw [str_nums]
      have h1 : suf = decs U := by have := HD.out; rw [decF_zero] at this; exact this.symm
      have h2 : textV (V h l) = decs U := by
        have a1 := HP.out; have a2 := HU.out
        unfold textV; rw [if_neg (by omega), if_neg (by omega), a2]; rfl
      rw [h1, h2]
      rfl
    · have kb : kk ≤ 38 := by
        rcases Nat.lt_or_ge kk 39 with h9 | h9
        · omega
        · exfalso; have : kk = 39 := by omega
          subst this; simp at hub; exact hu hub
      obtain ⟨m', hm'⟩ : ∃ m', m = m' + 1 := ⟨m - 1, by omega⟩
      subst hm'
      have x1 : wr.cell? ⟨w.heap.size + 1, m', none⟩ = some (.int .u8 0) := by
        rw [B1.facts.1, List.getElem?_append_left (by simp)]; simp
      have y1 := B1.facts.2.1 m'
      have m39 : m' ≤ 39 := by omega
      have c := shorten_any ((u : Int) / 18446744073709551616) ((u : Int) % 18446744073709551616) (by omega) (by omega) (by omega) (by omega)
      rw [show V ((u : Int) / 18446744073709551616) ((u : Int) % 18446744073709551616) = (u : Int) by unfold V; omega] at c
      obtain ⟨p, hp⟩ : ∃ p, (u : Int) / 18446744073709551616 = p := ⟨_, rfl⟩
      obtain ⟨q, hq⟩ : ∃ q, (u : Int) % 18446744073709551616 = q := ⟨_, rfl⟩
      obtain ⟨d, hd⟩ : ∃ d, (u : Int) % 10 = d := ⟨_, rfl⟩
      have hpq : (¬ p = 0) ∨ (p = 0 ∧ ¬ q = 0) := by omega
      have d0 : 0 ≤ d := by omega
      have d9 : d ≤ 9 := by omega
      have edg : bv (UInt8.ofNat (48 + u % 10)) = .int .u8 (48 + d) := by
        unfold bv
        have : (UInt8.ofNat (48 + u % 10)).toNat = 48 + u % 10 := by simp; omega
        rw [this, ← hd]; congr 1
      have hdec2 : decF 40 U = decF m' (u / 10) ++ (UInt8.ofNat (48 + u % 10) :: suf) := by
        rw [HD.out, decF_step m' u hu]; simp
      have hub2 : u / 10 < 10 ^ (39 - (kk + 1)) := by
        have h1 := hub
        rw [show 39 - kk = (39 - (kk + 1)) + 1 by omega, Nat.pow_succ] at h1
        omega
      rw [hp, hq, hd] at c
      rw [hp, hq]
      have HDEC2 := Lib.hid hdec2; have HUB3 := Lib.hid hub2; have EDG := Lib.hid edg
      have HUB4 : Hid (u / 10 ≤ 170141183460469231731687303715884105728) := (by omega : u / 10 ≤ 170141183460469231731687303715884105728)
      clear hp hq hd hdec hub hub1 hsl hmk edg hdec2 hub2 hu HUB2 HD
      rcases hpq with hz1 | ⟨rfl, hz1⟩
      all_goals
        go_wp2_with fail
        refine (c _).mono ?_
        rintro e w1 ⟨rfl, hb⟩
        have y2 := (hb.frozen (p := ⟨w.heap.size + 1, m', none⟩) (block_lt_of_cell x1)).trans y1
        replace x1 := (hb.cell (p := ⟨w.heap.size + 1, m', none⟩) (block_lt_of_cell x1)).trans x1
        replace B0 := B0.ext hb rfl
        replace B1 := B1.ext hb rfl
        replace hw := hw.trans (hb.mono hw.size)
        clear hb x0 y0 z0 v0 y1
        go_wp2
        go_roundw
        case rel =>
          refine ⟨m', u / 10, kk + 1, UInt8.ofNat (48 + u % 10) :: suf, by have := HMK.out; omega, by omega, by push_cast; rfl, by push_cast; rfl, rfl, HUB3.out, HUB4.out, by simp; exact HSL.out, HDEC2.out, B0.set_ne _ _ (by simp), ?_, hw.setCell (by simp) _⟩
          rw [List.map_cons, EDG.out, ← set_digit]
          exact B1.set m' _
        case measure => simp [intOf]
theorem text_pos0 (l : Int) (k : Ok 0 l) (hp : 0 < V 0 l) (w : World) :
    Calls Try.prog 21 #[.agg #[.int .i64 0, .int .u64 l]] w fun e w' => e = .returned (.string ⟨(textV (V 0 l)).toArray⟩) ∧ Below w.heap.size w w' := by
  have hz : ¬ l = 0 := by unfold V at hp; omega
  have l0 := k.l0
  have l1 := k.l1
  obtain ⟨U, hU⟩ := Int.eq_ofNat_of_zero_le (Int.le_of_lt hp)
  have HP := Lib.hid hp
  have HU := Lib.hid hU
  have hUb : U < 10 ^ 39 := by
    have := fits_V k
    rw [fits_iff] at this
    have e : (10 : Nat) ^ 39 = 1000000000000000000000000000000000000000 := rfl
    omega
  have HUB := Lib.hid hUb
  have HU2 : Hid (U ≤ 170141183460469231731687303715884105728) := by
    have := fits_V k
    rw [fits_iff] at this
    have h2 : U ≤ 170141183460469231731687303715884105728 := by omega
    exact h2
  have s3 : (0 : Int) = (U : Int) / 18446744073709551616 := by have := hU; unfold V at this; omega
  have s4 : l = (U : Int) % 18446744073709551616 := by have := hU; unfold V at this; omega
  have S3 := Lib.hid s3; have S4 := Lib.hid s4
  clear hp hU hUb s3 s4
  go_enter Try.func21, Try.ntmps21
  go_wp2
  go_quiet (fail)
  go_wp2
  go_loopw [3, 4, 6] (TextRel w 0 l U) (fun _ _ i _ => (intOf i).toNat)
  case atStart =>
    refine ⟨40, U, 0, [], rfl, by omega, by rw [← S3.out], by rw [← S4.out], rfl, HUB.out, HU2.out, rfl, by simp, (Box.new (cs := [.int .i64 0, .int .u64 l]) rfl).old _, ?_, ?_⟩
    · exact Box.new (by simp)
    · exact ((Below.refl _ _).alloc (Nat.le_refl _) _).trans ((below_drewN _ _).mono (by simp)) |>.alloc (by simp) _
  case round =>
    obtain ⟨m, u, kk, suf, hmk, hk39, rfl, rfl, rfl, hub, hub1, hsl, hdec, B0, B1, hw⟩ := hrel
    have HD := Lib.hid hdec
    have HSL := Lib.hid hsl
    have HUB2 := Lib.hid hub
    have HMK := Lib.hid hmk
    obtain ⟨x0, y0, z0, v0⟩ := B0.facts
    have hl := hw.size
    by_cases hu : u = 0
    · have m1 : 1 ≤ m := by omega
      have m40 : m ≤ 40 := by omega
      subst hu
      clear hdec hub hub1 hsl hmk
      rw [show ((0 : Nat) : Int) / 18446744073709551616 = 0 from rfl, show ((0 : Nat) : Int) % 18446744073709551616 = 0 from rfl]
      have hkk : 1 ≤ kk := by
        rcases Nat.lt_or_ge 0 kk with h9 | h9
        · exact h9
        · exfalso
          have hs0 : suf = [] := List.length_eq_zero_iff.1 (by rw [HSL.out]; omega)
          have hd0 := HD.out
          rw [hs0, decF_zero] at hd0
          have hun : U ≠ 0 := by have h1 := HP.out; have h2 := HU.out; omega
          rw [decF_step 39 U hun] at hd0
          simp at hd0
      have m39 : m ≤ 39 := by have := HMK.out; omega
      have hsl := slice_row (w.heap.size + 1) m m39
      have ecv := run_convert_bytes_arg (P := Try.prog) wr 65 5 (by kernel_rfl) (by kernel_rfl) (w.heap.size + 1) m (40 - m) (40 - m) (suf.map fun c => (c.toNat : Int)) (by simp; have := HSL.out; have := HMK.out; omega) (row_cell B1 (by rw [HSL.out]; exact HMK.out)) 9 (by kernel_rfl)
      go_wp2
      go_ret
      refine ⟨?_, hw⟩
      rw [str_nums]
      have h1 : suf = decs U := by have := HD.out; rw [decF_zero] at this; exact this.symm
      have h2 : textV (V 0 l) = decs U := by
        have a1 := HP.out; have a2 := HU.out
        unfold textV; rw [if_neg (by omega), if_neg (by omega), a2]; rfl
      rw [h1, h2]
      rfl
    · have kb : kk ≤ 38 := by
        rcases Nat.lt_or_ge kk 39 with h9 | h9
        · omega
        · exfalso; have : kk = 39 := by omega
          subst this; simp at hub; exact hu hub
      obtain ⟨m', hm'⟩ : ∃ m', m = m' + 1 := ⟨m - 1, by omega⟩
      subst hm'
      have x1 : wr.cell? ⟨w.heap.size + 1, m', none⟩ = some (.int .u8 0) := by
        rw [B1.facts.1, List.getElem?_append_left (by simp)]; simp
      have y1 := B1.facts.2.1 m'
      have m39 : m' ≤ 39 := by omega
      have c := shorten_any ((u : Int) / 18446744073709551616) ((u : Int) % 18446744073709551616) (by omega) (by omega) (by omega) (by omega)
      rw [show V ((u : Int) / 18446744073709551616) ((u : Int) % 18446744073709551616) = (u : Int) by unfold V; omega] at c
      obtain ⟨p, hp⟩ : ∃ p, (u : Int) / 18446744073709551616 = p := ⟨_, rfl⟩
      obtain ⟨q, hq⟩ : ∃ q, (u : Int) % 18446744073709551616 = q := ⟨_, rfl⟩
      obtain ⟨d, hd⟩ : ∃ d, (u : Int) % 10 = d := ⟨_, rfl⟩
      have hpq : (¬ p = 0) ∨ (p = 0 ∧ ¬ q = 0) := by omega
      have d0 : 0 ≤ d := by omega
      have d9 : d ≤ 9 := by omega
      have edg : bv (UInt8.ofNat (48 + u % 10)) = .int .u8 (48 + d) := by
        unfold bv
        have : (UInt8.ofNat (48 + u % 10)).toNat = 48 + u % 10 := by simp; omega
        rw [this, ← hd]; congr 1
      have hdec2 : decF 40 U = decF m' (u / 10) ++ (UInt8.ofNat (48 + u % 10) :: suf) := by
        rw [HD.out, decF_step m' u hu]; simp
      have hub2 : u / 10 < 10 ^ (39 - (kk + 1)) := by
        have h1 := hub
        rw [show 39 - kk = (39 - (kk + 1)) + 1 by omega, Nat.pow_succ] at h1
        omega
      rw [hp, hq, hd] at c
      rw [hp, hq]
      have HDEC2 := Lib.hid hdec2; have HUB3 := Lib.hid hub2; have EDG := Lib.hid edg
      have HUB4 : Hid (u / 10 ≤ 170141183460469231731687303715884105728) := (by omega : u / 10 ≤ 170141183460469231731687303715884105728)
      clear hp hq hd hdec hub hub1 hsl hmk edg hdec2 hub2 hu HUB2 HD
      rcases hpq with hz1 | ⟨rfl, hz1⟩
      all_goals
        go_wp2_with fail
        refine (c _).mono ?_
        rintro e w1 ⟨rfl, hb⟩
        have y2 := (hb.frozen (p := ⟨w.heap.size + 1, m', none⟩) (block_lt_of_cell x1)).trans y1
        replace x1 := (hb.cell (p := ⟨w.heap.size + 1, m', none⟩) (block_lt_of_cell x1)).trans x1
        replace B0 := B0.ext hb rfl
        replace B1 := B1.ext hb rfl
        replace hw := hw.trans (hb.mono hw.size)
        clear hb x0 y0 z0 v0 y1
        go_wp2
        go_roundw
        case rel =>
          refine ⟨m', u / 10, kk + 1, UInt8.ofNat (48 + u % 10) :: suf, by have := HMK.out; omega, by omega, by push_cast; rfl, by push_cast; rfl, rfl, HUB3.out, HUB4.out, by simp; exact HSL.out, HDEC2.out, B0.set_ne _ _ (by simp), ?_, hw.setCell (by simp) _⟩
          rw [List.map_cons, EDG.out, ← set_digit]
          exact B1.set m' _
        case measure => simp [intOf]
theorem text_neg (h l : Int) (k : Ok h l) (hp : V h l < 0) (w : World) :
    Calls Try.prog 21 #[.agg #[.int .i64 h, .int .u64 l]] w fun e w' => e = .returned (.string ⟨(textV (V h l)).toArray⟩) ∧ Below w.heap.size w w' := by
  have h0 : h < 0 := by obtain ⟨a, b, c, d⟩ := k; unfold V at hp; omega
  have hz : ¬ h = 0 := by omega
  have hh := k.h0
  have l0 := k.l0
  have l1 := k.l1
  obtain ⟨U, hU⟩ := Int.eq_ofNat_of_zero_le (show 0 ≤ -V h l by omega)
  have HP := Lib.hid hp
  have HU := Lib.hid hU
  have hUb : U < 10 ^ 39 := by
    have := fits_V k
    rw [fits_iff] at this
    have e : (10 : Nat) ^ 39 = 1000000000000000000000000000000000000000 := rfl
    omega
  have HUB := Lib.hid hUb
  have HU2 : Hid (U ≤ 170141183460469231731687303715884105728) := by
    have := fits_V k
    rw [fits_iff] at this
    have h2 : U ≤ 170141183460469231731687303715884105728 := by omega
    exact h2
  obtain ⟨g, hg⟩ : ∃ g, IntKind.u64.wrap h = g := ⟨_, rfl⟩
  have eg : g = h + 18446744073709551616 := by rw [← hg, IntKind.wrap_u64]; omega
  have o := opposite_any g l (by omega) (by omega) l0 l1
  have s3 : -V g l / 18446744073709551616 % 18446744073709551616 = (U : Int) / 18446744073709551616 := by have := hU; unfold V at this ⊢; omega
  have s4 : -V g l % 18446744073709551616 = (U : Int) % 18446744073709551616 := by have := hU; unfold V at this ⊢; omega
  rw [s3, s4] at o
  clear eg
  clear hp hU hUb s3 s4
  go_enter Try.func21, Try.ntmps21
  go_wp2
  go_quiet (fail)
  go_wp2_with (first | (go_at_call 36; refine (o _).mono ?_; rintro e w' ⟨rfl, rfl⟩))
  go_loopw [3, 4, 6] (TextRel w h l U) (fun _ _ i _ => (intOf i).toNat)
  case atStart =>
    refine ⟨40, U, 0, [], rfl, by omega, rfl, rfl, rfl, HUB.out, HU2.out, rfl, by simp, (Box.new (cs := [.int .i64 h, .int .u64 l]) rfl).old _, ?_, ?_⟩
    · exact Box.new (by simp)
    · exact ((Below.refl _ _).alloc (Nat.le_refl _) _).trans ((below_drewN _ _).mono (by simp)) |>.alloc (by simp) _
  case round =>
    obtain ⟨m, u, kk, suf, hmk, hk39, rfl, rfl, rfl, hub, hub1, hsl, hdec, B0, B1, hw⟩ := hrel
    have HD := Lib.hid hdec
    have HSL := Lib.hid hsl
    have HUB2 := Lib.hid hub
    have HMK := Lib.hid hmk
    obtain ⟨x0, y0, z0, v0⟩ := B0.facts
    have hl := hw.size
    by_cases hu : u = 0
    · have m1 : 1 ≤ m := by omega
      have m40 : m ≤ 40 := by omega
      subst hu
      clear hdec hub hub1 hsl hmk
      rw [show ((0 : Nat) : Int) / 18446744073709551616 = 0 from rfl, show ((0 : Nat) : Int) % 18446744073709551616 = 0 from rfl]
      have hkk : 1 ≤ kk := by
        rcases Nat.lt_or_ge 0 kk with h9 | h9
        · exact h9
        · exfalso
          have hs0 : suf = [] := List.length_eq_zero_iff.1 (by rw [HSL.out]; omega)
          have hd0 := HD.out
          rw [hs0, decF_zero] at hd0
          have hun : U ≠ 0 := by have h1 := HP.out; have h2 := HU.out; omega
          rw [decF_step 39 U hun] at hd0
          simp at hd0
      have m39 : m ≤ 39 := by have := HMK.out; omega
      obtain ⟨m', hm'⟩ : ∃ m', m = m' + 1 := ⟨m - 1, by omega⟩
      subst hm'
      have x1 : wr.cell? ⟨w.heap.size + 1, m', none⟩ = some (.int .u8 0) := by
        rw [B1.facts.1, List.getElem?_append_left (by simp)]; simp
      have y1 := B1.facts.2.1 m'
      have hsl := slice_row (w.heap.size + 1) m' (by omega)
      have B2 : Box (wr.setCell ⟨w.heap.size + 1, m', none⟩ (.int .u8 45)) (w.heap.size + 1) (List.replicate m' (.int .u8 0) ++ ((45 : UInt8) :: suf).map bv) 62 := by
        rw [List.map_cons, show bv 45 = .int .u8 45 from rfl, ← set_digit]
        exact B1.set m' _
      have ecv := run_convert_bytes_arg (P := Try.prog) (wr.setCell ⟨w.heap.size + 1, m', none⟩ (.int .u8 45)) 65 5 (by kernel_rfl) (by kernel_rfl) (w.heap.size + 1) m' (40 - m') (40 - m') (((45 : UInt8) :: suf).map fun c => (c.toNat : Int)) (by simp; have := HSL.out; have := HMK.out; omega) (row_cell B2 (by simp; have := HSL.out; have := HMK.out; omega)) 9 (by kernel_rfl)
      have ECV := Lib.hid (str_nums ((45 : UInt8) :: suf))
      obtain ⟨xs, hxs⟩ : ∃ xs, ((45 : UInt8) :: suf).map (fun c => (c.toNat : Int)) = xs := ⟨_, rfl⟩
      rw [hxs] at ecv ECV
      clear hxs B2
      go_wp2
      go_ret
      refine ⟨?_, hw.setCell (by simp) _⟩
      have h1 : suf = decs U := by have := HD.out; rw [decF_zero] at this; exact this.symm
      have h2 : textV (V h l) = 45 :: decs U := by
        have a1 := HP.out; have a2 := HU.out
        unfold textV; rw [if_neg (by omega), if_pos (by omega), a2]; rfl
      rw [h2, ← h1, ← ECV.out]
      rfl
    · have kb : kk ≤ 38 := by
        rcases Nat.lt_or_ge kk 39 with h9 | h9
        · omega
        · exfalso; have : kk = 39 := by omega
          subst this; simp at hub; exact hu hub
      obtain ⟨m', hm'⟩ : ∃ m', m = m' + 1 := ⟨m - 1, by omega⟩
      subst hm'
      have x1 : wr.cell? ⟨w.heap.size + 1, m', none⟩ = some (.int .u8 0) := by
        rw [B1.facts.1, List.getElem?_append_left (by simp)]; simp
      have y1 := B1.facts.2.1 m'
      have m39 : m' ≤ 39 := by omega
      have c := shorten_any ((u : Int) / 18446744073709551616) ((u : Int) % 18446744073709551616) (by omega) (by omega) (by omega) (by omega)
      rw [show V ((u : Int) / 18446744073709551616) ((u : Int) % 18446744073709551616) = (u : Int) by unfold V; omega] at c
      obtain ⟨p, hp⟩ : ∃ p, (u : Int) / 18446744073709551616 = p := ⟨_, rfl⟩
      obtain ⟨q, hq⟩ : ∃ q, (u : Int) % 18446744073709551616 = q := ⟨_, rfl⟩
      obtain ⟨d, hd⟩ : ∃ d, (u : Int) % 10 = d := ⟨_, rfl⟩
      have hpq : (¬ p = 0) ∨ (p = 0 ∧ ¬ q = 0) := by omega
      have d0 : 0 ≤ d := by omega
      have d9 : d ≤ 9 := by omega
      have edg : bv (UInt8.ofNat (48 + u % 10)) = .int .u8 (48 + d) := by
        unfold bv
        have : (UInt8.ofNat (48 + u % 10)).toNat = 48 + u % 10 := by simp; omega
        rw [this, ← hd]; congr 1
      have hdec2 : decF 40 U = decF m' (u / 10) ++ (UInt8.ofNat (48 + u % 10) :: suf) := by
        rw [HD.out, decF_step m' u hu]; simp
      have hub2 : u / 10 < 10 ^ (39 - (kk + 1)) := by
        have h1 := hub
        rw [show 39 - kk = (39 - (kk + 1)) + 1 by omega, Nat.pow_succ] at h1
        omega
      rw [hp, hq, hd] at c
      rw [hp, hq]
      have HDEC2 := Lib.hid hdec2; have HUB3 := Lib.hid hub2; have EDG := Lib.hid edg
      have HUB4 : Hid (u / 10 ≤ 170141183460469231731687303715884105728) := (by omega : u / 10 ≤ 170141183460469231731687303715884105728)
      clear hp hq hd hdec hub hub1 hsl hmk edg hdec2 hub2 hu HUB2 HD
      rcases hpq with hz1 | ⟨rfl, hz1⟩
      all_goals
        go_wp2_with fail
        refine (c _).mono ?_
        rintro e w1 ⟨rfl, hb⟩
        have y2 := (hb.frozen (p := ⟨w.heap.size + 1, m', none⟩) (block_lt_of_cell x1)).trans y1
        replace x1 := (hb.cell (p := ⟨w.heap.size + 1, m', none⟩) (block_lt_of_cell x1)).trans x1
        replace B0 := B0.ext hb rfl
        replace B1 := B1.ext hb rfl
        replace hw := hw.trans (hb.mono hw.size)
        clear hb x0 y0 z0 v0 y1
        go_wp2
        go_roundw
        case rel =>
          refine ⟨m', u / 10, kk + 1, UInt8.ofNat (48 + u % 10) :: suf, by have := HMK.out; omega, by omega, by push_cast; rfl, by push_cast; rfl, rfl, HUB3.out, HUB4.out, by simp; exact HSL.out, HDEC2.out, B0.set_ne _ _ (by simp), ?_, hw.setCell (by simp) _⟩
          rw [List.map_cons, EDG.out, ← set_digit]
          exact B1.set m' _
        case measure => simp [intOf]
theorem text_zero (w : World) :
    Calls Try.prog 21 #[.agg #[.int .i64 0, .int .u64 0]] w fun e w' => e = .returned (.string ⟨(textV 0).toArray⟩) ∧ Below w.heap.size w w' := by
  go_enter Try.func21, Try.ntmps21
  go_wp2
  go_ret
  exact ⟨rfl, by go_grown⟩
theorem text_any (h l : Int) (k : Ok h l) (w : World) :
    Calls Try.prog 21 #[.agg #[.int .i64 h, .int .u64 l]] w fun e w' => e = .returned (.string ⟨(textV (V h l)).toArray⟩) ∧ Below w.heap.size w w' := by
  rcases Int.lt_trichotomy (V h l) 0 with hn | hz | hp
  · exact text_neg h l k hn w
  · have : h = 0 ∧ l = 0 := by obtain ⟨a, b, c, d⟩ := k; unfold V at hz; omega
    obtain ⟨rfl, rfl⟩ := this
    exact text_zero w
  · by_cases h0 : h = 0
    · subst h0; exact text_pos0 l k hp w
    · exact text_pos1 h l k h0 hp w
end Go.Proofs.Ytkohcdkolkncaaa
