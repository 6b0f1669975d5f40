/- A number's text is read as that number, and any text that is read is its number's: the law WideBack of package hectarelaw1 answers true at every input; no conditions. -/
import Derived.Test.YtkohcdkolkncaaaRows
import Derived.Test.YtkohcdkolkncaaaWideK
import Derived.Test.YtkohcdkolkncaaaPost
import Derived.Test.YtkohcdkolkncaaaWideR
import Derived.Test.YtkohcdkolkncaaaLate
import Derived.WalkKit
import Derived.WalkSpells
import Derived.WalkLawsBesides
import Derived.Deep.QuietTactic
import Derived.BigQuiet
import Derived.Lib.Hide
import Derived.Handy
import Derived.ProofKit
import Derived.Lib.SmallJoins
namespace Go.Proofs.Ytkohcdkolkncaaa
open Go.RowKit Go.Sort Go.ChangeShapes Go.WideShapes Go.ChangeAt
attribute [local go_sem] rOper rAt rUpon cell_set sg_i64 sg_u64 alloc_cell alloc_frozen
attribute [local irreducible] rWalk

theorem back_long (h1 l1 : Int) (s : ByteArray) (hs : 60 < s.size) (w : World) :
    Calls Try.prog 6 #[.agg #[.int .i64 h1, .int .u64 l1], .string s] w fun e w' => e = .returned (.bool true) ∧ Below w.heap.size w w' := by
  have hs' : (60 : Int) < (s.size : Int) := by omega
  clear hs
  go_enter Try.func6, Try.ntmps6
  go_wp2_with fail
  refine at_call fun W1 hW => ?_
  have Bx : Box W1 (w.heap.size) [.int .i64 h1, .int .u64 l1] 24 := by rw [hW]; exact Box.new rfl
  have hw : Below w.heap.size w W1 := by rw [hW]; go_grown
  clear hW
  refine (awake_any _).mono ?_
  rintro e w2 ⟨rfl, hb⟩
  replace Bx := Bx.ext hb rfl
  replace hw := hw.trans (hb.mono hw.size)
  clear hb
  go_wp2
  go_ret
  exact ⟨rfl, hw⟩
theorem back_none (h1 l1 : Int) (k : Ok h1 l1) (s : ByteArray) (hs : s.size ≤ 60) (hp : parseV s.data.toList = none) (w : World) :
    Calls Try.prog 6 #[.agg #[.int .i64 h1, .int .u64 l1], .string s] w fun e w' => e = .returned (.bool true) ∧ Below w.heap.size w w' := by
  have c1 := text_any h1 l1 k
  have c2 := parse_any ⟨(textV (V h1 l1)).toArray⟩ (by have := textV_len (V h1 l1); unfold maxLen; simp [ByteArray.size]; omega)
  rw [show (⟨(textV (V h1 l1)).toArray⟩ : ByteArray).data.toList = textV (V h1 l1) from rfl, parse_text (fits_V k)] at c2
  simp only [pI, Option.isSome_some, if_true] at c2
  rw [cH_V k, cL_V k] at c2
  have c3 := parse_any s (by unfold maxLen; omega)
  obtain ⟨T, hT⟩ : ∃ T : ByteArray, ⟨(textV (V h1 l1)).toArray⟩ = T := ⟨_, rfl⟩
  rw [hT] at c1 c2
  have hs' : (s.size : Int) ≤ 60 := by omega
  rw [hp] at c3
  simp only [pI, Option.isSome_none] at c3
  rw [show cH 0 = 0 by decide +kernel, show cL 0 = 0 by decide +kernel, if_neg (by simp)] at c3
  clear hs hp hT
  go_enter Try.func6, Try.ntmps6
  go_wp2_with fail
  refine at_call fun W1 hW => ?_
  have Bx : Box W1 (w.heap.size) [.int .i64 h1, .int .u64 l1] 24 := by rw [hW]; exact Box.new rfl
  have hw : Below w.heap.size w W1 := by rw [hW]; go_grown
  clear hW
  refine (c1 _).mono ?_
  rintro e w2 ⟨rfl, hb⟩
  replace Bx := Bx.ext hb rfl
  replace hw := hw.trans (hb.mono hw.size)
  clear hb
  obtain ⟨xx, yx, zx, vx⟩ := Bx.facts
  go_wp2_with fail
  refine (c2 _).mono ?_
  rintro e w3 ⟨rfl, hb⟩
  clear xx yx zx vx
  replace Bx := Bx.ext hb rfl
  replace hw := hw.trans (hb.mono hw.size)
  clear hb
  obtain ⟨xx, yx, zx, vx⟩ := Bx.facts
  go_wp2_with fail
  refine at_call fun W4 hW => ?_
  obtain ⟨bky, hby⟩ : ∃ b, w3.heap.size = b := ⟨_, rfl⟩
  rw [hby]
  have By : Box W4 bky [.int .i64 h1, .int .u64 l1] 24 := by rw [hW]; exact Box.new hby.symm
  replace Bx : Box W4 (w.heap.size) [.int .i64 h1, .int .u64 l1] 24 := by rw [hW]; exact Bx.old _
  replace hw : Below w.heap.size w W4 := by have hl := hw.size; rw [hW]; go_grown
  clear hW hby
  refine (c3 _).mono ?_
  rintro e w5 ⟨rfl, hb⟩
  clear xx yx zx vx
  replace Bx := Bx.ext hb rfl
  replace By := By.ext hb rfl
  replace hw := hw.trans (hb.mono hw.size)
  clear hb
  obtain ⟨xx, yx, zx, vx⟩ := Bx.facts
  obtain ⟨xy, yy, zy, vy⟩ := By.facts
  go_wp2_with fail
  refine at_call fun W6 hW => ?_
  obtain ⟨bkz, hbz⟩ : ∃ b, w5.heap.size = b := ⟨_, rfl⟩
  rw [hbz]
  have Bz : Box W6 bkz [.int .i64 0, .int .u64 0] 24 := by rw [hW]; exact Box.new hbz.symm
  replace Bx : Box W6 (w.heap.size) [.int .i64 h1, .int .u64 l1] 24 := by rw [hW]; exact Bx.old _
  replace By : Box W6 (bky) [.int .i64 h1, .int .u64 l1] 24 := by rw [hW]; exact By.old _
  replace hw : Below w.heap.size w W6 := by have hl := hw.size; rw [hW]; go_grown
  clear hW hbz
  refine (awake_any _).mono ?_
  rintro e w7 ⟨rfl, hb⟩
  clear xx yx zx vx xy yy zy vy
  replace Bx := Bx.ext hb rfl
  replace By := By.ext hb rfl
  replace Bz := Bz.ext hb rfl
  replace hw := hw.trans (hb.mono hw.size)
  clear hb
  go_wp2
  go_ret
  exact ⟨rfl, hw⟩
theorem back_some (h1 l1 : Int) (k : Ok h1 l1) (s : ByteArray) (hs : s.size ≤ 60) (m : Int) (hp : parseV s.data.toList = some m) (w : World) :
    Calls Try.prog 6 #[.agg #[.int .i64 h1, .int .u64 l1], .string s] w fun e w' => e = .returned (.bool true) ∧ Below w.heap.size w w' := by
  have c1 := text_any h1 l1 k
  have c2 := parse_any ⟨(textV (V h1 l1)).toArray⟩ (by have := textV_len (V h1 l1); unfold maxLen; simp [ByteArray.size]; omega)
  rw [show (⟨(textV (V h1 l1)).toArray⟩ : ByteArray).data.toList = textV (V h1 l1) from rfl, parse_text (fits_V k)] at c2
  simp only [pI, Option.isSome_some, if_true] at c2
  rw [cH_V k, cL_V k] at c2
  have c3 := parse_any s (by unfold maxLen; omega)
  obtain ⟨T, hT⟩ : ∃ T : ByteArray, ⟨(textV (V h1 l1)).toArray⟩ = T := ⟨_, rfl⟩
  rw [hT] at c1 c2
  have hs' : (s.size : Int) ≤ 60 := by omega
  rw [hp] at c3
  simp only [pI, Option.isSome_some, if_true] at c3
  obtain ⟨e1, e2⟩ := text_parse hp
  have c4 := text_any (cH m) (cL m) (ok_c m)
  rw [V_c e2, e1, show (⟨s.data.toList.toArray⟩ : ByteArray) = s from WideShapes.bytes_inj (by simp)] at c4
  obtain ⟨H0, hH⟩ : ∃ x, cH m = x := ⟨_, rfl⟩
  obtain ⟨L0, hL⟩ : ∃ x, cL m = x := ⟨_, rfl⟩
  rw [hH, hL] at c3 c4
  have es : (s.toList == s.toList) = true := by simp
  clear hs hp hT e1 e2 hH hL
  go_enter Try.func6, Try.ntmps6
  go_wp2_with fail
  refine at_call fun W1 hW => ?_
  have Bx : Box W1 (w.heap.size) [.int .i64 h1, .int .u64 l1] 24 := by rw [hW]; exact Box.new rfl
  have hw : Below w.heap.size w W1 := by rw [hW]; go_grown
  clear hW
  refine (c1 _).mono ?_
  rintro e w2 ⟨rfl, hb⟩
  replace Bx := Bx.ext hb rfl
  replace hw := hw.trans (hb.mono hw.size)
  clear hb
  obtain ⟨xx, yx, zx, vx⟩ := Bx.facts
  go_wp2_with fail
  refine (c2 _).mono ?_
  rintro e w3 ⟨rfl, hb⟩
  clear xx yx zx vx
  replace Bx := Bx.ext hb rfl
  replace hw := hw.trans (hb.mono hw.size)
  clear hb
  obtain ⟨xx, yx, zx, vx⟩ := Bx.facts
  go_wp2_with fail
  refine at_call fun W4 hW => ?_
  obtain ⟨bky, hby⟩ : ∃ b, w3.heap.size = b := ⟨_, rfl⟩
  rw [hby]
  have By : Box W4 bky [.int .i64 h1, .int .u64 l1] 24 := by rw [hW]; exact Box.new hby.symm
  replace Bx : Box W4 (w.heap.size) [.int .i64 h1, .int .u64 l1] 24 := by rw [hW]; exact Bx.old _
  replace hw : Below w.heap.size w W4 := by have hl := hw.size; rw [hW]; go_grown
  clear hW hby
  refine (c3 _).mono ?_
  rintro e w5 ⟨rfl, hb⟩
  clear xx yx zx vx
  replace Bx := Bx.ext hb rfl
  replace By := By.ext hb rfl
  replace hw := hw.trans (hb.mono hw.size)
  clear hb
  obtain ⟨xx, yx, zx, vx⟩ := Bx.facts
  obtain ⟨xy, yy, zy, vy⟩ := By.facts
  go_wp2_with fail
  refine at_call fun W6 hW => ?_
  obtain ⟨bkz, hbz⟩ : ∃ b, w5.heap.size = b := ⟨_, rfl⟩
  rw [hbz]
  have Bz : Box W6 bkz [.int .i64 H0, .int .u64 L0] 24 := by rw [hW]; exact Box.new hbz.symm
  replace Bx : Box W6 (w.heap.size) [.int .i64 h1, .int .u64 l1] 24 := by rw [hW]; exact Bx.old _
  replace By : Box W6 (bky) [.int .i64 h1, .int .u64 l1] 24 := by rw [hW]; exact By.old _
  replace hw : Below w.heap.size w W6 := by have hl := hw.size; rw [hW]; go_grown
  clear hW hbz
  refine (c4 _).mono ?_
  rintro e w7 ⟨rfl, hb⟩
  clear xx yx zx vx xy yy zy vy
  replace Bx := Bx.ext hb rfl
  replace By := By.ext hb rfl
  replace Bz := Bz.ext hb rfl
  replace hw := hw.trans (hb.mono hw.size)
  clear hb
  obtain ⟨xx, yx, zx, vx⟩ := Bx.facts
  obtain ⟨xy, yy, zy, vy⟩ := By.facts
  obtain ⟨xz, yz, zz, vz⟩ := Bz.facts
  go_wp2_with fail
  refine (awake_any _).mono ?_
  rintro e w8 ⟨rfl, hb⟩
  clear xx yx zx vx xy yy zy vy xz yz zz vz
  replace Bx := Bx.ext hb rfl
  replace By := By.ext hb rfl
  replace Bz := Bz.ext hb rfl
  replace hw := hw.trans (hb.mono hw.size)
  clear hb
  go_wp2
  go_ret
  exact ⟨rfl, hw⟩
theorem back_law (h1 l1 : Int) (s : ByteArray) (k : Ok h1 l1) (w : World) :
    Calls Try.prog 6 #[.agg #[.int .i64 h1, .int .u64 l1], .string s] w fun e w' => e = .returned (.bool true) ∧ Below w.heap.size w w' := by
  rcases Nat.lt_or_ge 60 s.size with h | h
  · exact back_long h1 l1 s h w
  · cases hp : parseV s.data.toList with
    | none => exact back_none h1 l1 k s h hp w
    | some m => exact back_some h1 l1 k s h m hp w
set_option maxRecDepth 100000 in
theorem wideBack_lifted (os : Os) (started : os.Started) (H : Type) (enc : TypeId × Value → H) :
    ReturnsInHanded {} Try.checked os 6 .any (Rows.wideBackSpec.pre6 enc Try.prog Try.f6 Rows.wideBackRow.domain false) (Rows.wideBackSpec.post enc Try.prog Try.f6 false true false false) := by
  refine returnsInHanded_of_change (C := Try.checked) Try.own started (by kernel_rfl) Try.func6
    (ChangeSpec.witness6 (enc := enc) (C := Try.checked) false ⟨#[], #[.agg #[.int .i64 0, .int .u64 0], .string ⟨#[]⟩], []⟩ 8 (by kernel_rfl) (by kernel_rfl) (by kernel_rfl) (by kernel_rfl)) ?_
  intro W base args ds gs before hval0 hW hcnd _
  have hval : ∀ (j : Nat) t v, Try.f6.params[j]? = some t → args[j]? = some v → Value.okWide Try.prog W .any base t v := hval0
  have hW' := hW
  obtain ⟨p, q, hA0, hV, rfl, hfz, hnd⟩ := hW
  have hA : DataW.TrodAll enc Try.prog W 0 (fun _ => true) true Try.f6.params.toList args.toList ds p := hA0
  rw [Try.params6] at hA hval
  obtain ⟨v0, v1, d0, d1, q0, q1, rfl, rfl, rfl, p0, p1⟩ := trodAll_two hA
  obtain ⟨rfl, rfl⟩ := trodVars_none hV
  obtain ⟨c0, e0, y0, z0, m0, rfl, rfl, rfl, hy0, hz0⟩ := Joins.open_agg2 Try.underlying24 (by kernel_rfl) (by kernel_rfl) (hval 0 24 v0 rfl rfl) p0
  obtain ⟨h1, f0, rfl, wh1⟩ := DataW.trod_int Try.underlying2 hy0
  obtain ⟨l1, g0, rfl, wl1⟩ := DataW.trod_int Try.underlying22 hz0
  simp at f0 g0
  subst f0 g0
  have k0 : Ok h1 l1 := ok_wf wh1 wl1
  obtain ⟨s, rfl, rfl, rfl, ws⟩ := ChangeMaps.open_string Try.underlying9 (hval 1 9 v1 rfl rfl) p1
  clear hA0 hval0
  simp only [List.append_nil] at hW'
  refine (back_law h1 l1 s k0 W).mono fun e W' ⟨he, hb⟩ => ?_
  subst he
  exact ⟨_, rfl, post_of_below (pa := []) (pv := []) hW' (fun _ _ _ => trodAll_mk1 (shut_bool Try.underlying4 true)) (fun sp _ => trodAll_mk2 (Joins.shut_agg2 (y0 := (.lit (.int .i64 h1), [])) (y1 := (.lit (.int .u64 l1), [])) Try.underlying24 (by kernel_rfl) (by kernel_rfl) ⟨1, by simp [DataW.trod, Try.underlying2, wh1]⟩ ⟨1, by simp [DataW.trod, Try.underlying22, wl1]⟩) (ChangeMaps.shut_string Try.underlying9 ws)) (fun _ _ => rfl) rfl hb (ok_one (by kernel_rfl) rfl (okWide_bool_mk Try.underlying4 true))⟩
/-- The law WideBack holds of every input. -/
theorem wideBack_holds : Rows.WideBackSaid :=
  OpenClaim.holds_of_wide 6 Try.f6 rfl rfl rfl rfl rfl rfl rfl ⟨rfl, rfl, rfl, rfl, rfl⟩ rfl rfl rfl rfl rfl (by kernel_rfl) Try.func6 (by kernel_rfl)
    (of_decide_eq_true (by kernel_rfl)) (by unfold Func.isWrapper; rw [if_neg (of_decide_eq_false (by kernel_rfl))]; exact ⟨rfl, rfl⟩)
    (fun os started H enc _ => wideBack_lifted os started H enc)
end Go.Proofs.Ytkohcdkolkncaaa
