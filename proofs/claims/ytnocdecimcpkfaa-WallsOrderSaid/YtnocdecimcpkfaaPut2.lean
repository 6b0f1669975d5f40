/- Put together: ExA, Post, ExB, ExC. -/
import Derived.Test.YtnocdecimcpkfaaRows
import Derived.Test.YtnocdecimcpkfaaPut1
import Derived.WalkKit
import Derived.WalkSpells
import Derived.WalkLawsBesides
import Derived.Laws.Externs
import Derived.Deep.QuietTactic
import Derived.BigQuiet
import Derived.Lib.Hide
import Derived.Handy
import Derived.Test.YtnocdecimcpkfaaPut0
import Derived.ProofKit
import Derived.Below
import Derived.ChangeSame
namespace Go.Proofs.Ytnocdecimcpkfaa
open Go.RowKit
attribute [local go_sem] rOper rAt rUpon cell_set sg_i64 sg_u64 alloc_cell alloc_frozen

theorem inGrid_any (n : Int) (w : World) :
    Calls Try.prog 71 #[.int .i64 n] w fun e w' => e = .returned (.bool (inG n)) ∧ w = w' := by
  go_enter Try.func71, Try.ntmps71
  go_wp2
  all_goals go_ret
  all_goals exact ⟨ret_bool (by simp [inG]; omega), rfl⟩
theorem cmp_int (a b : Int) (w : World) :
    Calls Try.prog 57 #[.int .i64 a, .int .i64 b] w fun e w' => e = .returned (.int .i64 (cmpN a b)) ∧ w = w' := by
  go_enter Try.func57, Try.ntmps57
  go_wp2
  all_goals go_ret
  · exact ⟨ret_int (by unfold cmpN sgn; rw [if_pos (by omega)]), rfl⟩
  · exact ⟨ret_int (by unfold cmpN sgn; rw [if_neg (by omega), if_pos (by omega)]), rfl⟩
  · exact ⟨ret_int (by unfold cmpN sgn; rw [if_neg (by omega), if_neg (by omega)]), rfl⟩
theorem valid_any (p : Pt) (w : World) :
    Calls Try.prog 48 #[.agg #[.int .i64 p.x, .int .i64 p.y]] w fun e w' => e = .returned (.bool (vld p)) ∧ Below w.heap.size w w' := by
  have hv : vld p = (inG p.x && inG p.y) := rfl
  have Hv := Lib.hid hv; clear hv
  go_enter Try.func48, Try.ntmps48
  go_wp2_with (go_at_call 71; refine (inGrid_any _ _).mono ?_; rintro e w' ⟨rfl, rfl⟩)
  all_goals go_returns

  all_goals exact ⟨ret_bool (by rw [Hv.out]; simp [*]), by go_grown⟩
/-- Are two points one? -/
def peqI (a b c d : Int) : Bool := decide (a = c) && decide (b = d)
theorem pt_eql (a b c d : Int) (w : World) : (binOp .eql 33 (.agg #[.int .i64 a, .int .i64 b]) (.agg #[.int .i64 c, .int .i64 d])).run Try.prog w = .ok (.bool (peqI a b c d)) w := by
  unfold peqI
  by_cases h1 : a = c <;> by_cases h2 : b = d <;> simp [go_sem, h1, h2]
theorem pt_neq (a b c d : Int) (w : World) : (binOp .neq 33 (.agg #[.int .i64 a, .int .i64 b]) (.agg #[.int .i64 c, .int .i64 d])).run Try.prog w = .ok (.bool (!peqI a b c d)) w := by
  unfold peqI
  by_cases h1 : a = c <;> by_cases h2 : b = d <;> simp [go_sem, h1, h2]
theorem peqI_iff {a b c d : Int} : peqI a b c d = true ↔ a = c ∧ b = d := by simp [peqI]
end Go.Proofs.Ytnocdecimcpkfaa

namespace Go.Proofs.Ytnocdecimcpkfaa
open Go.RowKit Go.WideShapes Go.ChangeShapes
theorem Try.own : ownKnob Try.prog.godebug = none := by kernel_rfl
theorem ok_wf {h l : Int} (a : (Lit.int .i64 h).wf = true) (b : (Lit.int .u64 l).wf = true) : Ok h l := by
  simp [Lit.wf, IntKind.min, IntKind.max, IntKind.signed, IntKind.bits] at a b
  exact ⟨by omega, by omega, by omega, by omega⟩
theorem int_wf {n : Int} (a : (Lit.int .i64 n).wf = true) : -9223372036854775808 ≤ n ∧ n ≤ 9223372036854775807 := by
  simp [Lit.wf, IntKind.min, IntKind.max, IntKind.signed, IntKind.bits] at a
  omega
theorem rWalk_skip {P : Program} {ops : Array Oper} {C : World → Prop} {Q : Act → Prop} {a : Act} {o : Oper} {rest : List Oper} (hg : Region.wanted o (yielded ops a.tmps) = false) (h : rWalk P ops C Q rest (a.put o.dst undef)) : rWalk P ops C Q (o :: rest) a := by
  simp only [rWalk]; rw [hg, if_neg (by simp)]; exact h
theorem toExt {P : Program} {f : FuncId} {args : Array Value} {v : Value} (c : ∀ w : World, Calls P f args w fun e w' => e = .returned v ∧ Below w.heap.size w w') : ∀ w : World, Calls P f args w fun e w' => e = .returned v ∧ Ext w w' := c
section
variable {H : Type} {enc : TypeId × Value → H} {P : Program}
theorem post_of_below {f : Func} {s : ChangeSpec} {apart fresh handsOn again : Bool} {W W' : World} {args : Array Value} {v : Value} {ds gs : List (DataW H)} {before pa pv : List MemPlace}
    (hW : DataW.Whole enc P f.params.toList s.vars apart W args.toList ds gs before)
    (hres : ∀ (b : Nat) (sp : Nat → Bool) (hd : Bool), DataW.TrodAll enc P W' b sp hd f.resultTypes.toList (v.resultList f.resultTypes.size) (s.fn H (ds ++ gs)).results [])
    (hargs : ∀ sp : Nat → Bool, (∀ p ∈ before, sp p.block = true) → DataW.TrodAll enc P W' 0 sp true f.params.toList args.toList (s.fn H (ds ++ gs)).args pa)
    (hvars : ∀ sp : Nat → Bool, (∀ p ∈ before, sp p.block = true) → DataW.TrodVars enc P W' sp s.vars (s.fn H (ds ++ gs)).vars pv)
    (hps : before = pa ++ pv) (hb : Below W.heap.size W W')
    (hok : ∀ (j : Nat) (t : TypeId) (r : Value), f.resultTypes[j]? = some t → (v.resultList f.resultTypes.size)[j]? = some r → Value.okWide P W' .any 0 t r) :
    s.post enc P f apart fresh handsOn again W args v W' := by
  have hlt : ∀ p ∈ before, p.block < W.heap.size := fun p hp => hW.lt p hp
  have hold : ∀ p ∈ before, (fun b => decide (b < W.heap.size)) p.block = true := fun p hp => by simpa using hlt p hp
  refine ⟨ds, gs, before, [], pa, pv, hW, hres _ _ _, hargs _ hold, hvars _ hold, World.keptBut_mono (fun p hp => ⟨hp, ?_⟩) (hb.frame (· ∈ before)), fun _ => ?_⟩
  · rw [hps, List.mem_append] at hp
    exact Or.inr hp
  · obtain ⟨_, _, _, _, _, hz, hn⟩ := hW
    refine ⟨hok, _, _, ([] ++ pa) ++ pv, ⟨[] ++ pa, pv, trodAll_append (hargs _ (fun _ _ => rfl)) (hres _ _ _), hvars _ (fun _ _ => rfl), rfl, ?_, ?_⟩, ?_⟩
    · intro b off hp
      have hin : MemPlace.cell b off ∈ before := by rw [hps]; simpa using hp
      rw [hb.frozen (hlt _ hin)]
      exact hz b off hin
    · intro ha
      have := hn ha
      rw [hps] at this
      simpa using this
    · intro p hp _
      rw [hps]
      simpa using hp
end
end Go.Proofs.Ytnocdecimcpkfaa

namespace Go.Proofs.Ytnocdecimcpkfaa
open Go.RowKit Go.Sort
attribute [local go_sem] rOper rAt rUpon cell_set sg_i64 sg_u64 alloc_cell alloc_frozen
attribute [local irreducible] rWalk

theorem cmp_pt (p q : Pt) (w : World) :
    Calls Try.prog 56 #[.agg #[.int .i64 p.x, .int .i64 p.y], .agg #[.int .i64 q.x, .int .i64 q.y]] w fun e w' => e = .returned (.int .i64 (cmpP p q)) ∧ Below w.heap.size w w' := by
  by_cases h : p.x = q.x
  · have e1 : (p.x != q.x) = false := by simp [h]
    have e2 : cmpP p q = cmpN p.y q.y := by unfold cmpP; rw [if_pos h]
    rw [e2]
    clear e2 h
    go_enter Try.func56, Try.ntmps56
    go_wp2_with (go_at_call 57; refine (cmp_int _ _ _).mono ?_; rintro e w' ⟨rfl, rfl⟩)
    go_returns
    exact ⟨rfl, by go_grown⟩
  · have e1 : (p.x != q.x) = true := by simp [h]
    have e2 : cmpP p q = cmpN p.x q.x := by unfold cmpP; rw [if_neg h]
    rw [e2]
    clear e2 h
    go_enter Try.func56, Try.ntmps56
    go_wp2_with (go_at_call 57; refine (cmp_int _ _ _).mono ?_; rintro e w' ⟨rfl, rfl⟩)
    go_returns
    exact ⟨rfl, by go_grown⟩
/-- The way from one to another, between points that may be. -/
def way (a b : Pt) : Pt := ⟨b.x - a.x, b.y - a.y⟩
/-- 24 bits and a sign. -/
def sm (n : Int) : Prop := -16777215 ≤ n ∧ n ≤ 16777215
def smP (p : Pt) : Prop := sm p.x ∧ sm p.y
theorem way_sm {a b : Pt} (ha : vld a = true) (hb : vld b = true) : smP (way a b) := by
  rw [vld_iff] at ha hb; unfold smP sm way; simp only; omega
theorem away_any (a b : Pt) (ha : vld a = true) (hb : vld b = true) (w : World) :
    Calls Try.prog 87 #[.agg #[.int .i64 a.x, .int .i64 a.y], .agg #[.int .i64 b.x, .int .i64 b.y]] w fun e w' => e = .returned (.agg #[.int .i64 (way a b).x, .int .i64 (way a b).y]) ∧ Below w.heap.size w w' := by
  rw [vld_iff] at ha hb
  have x1 : wrap64 (b.x - a.x) = (way a b).x := by rw [w64]; unfold way; simp only; omega
  have y1 : wrap64 (b.y - a.y) = (way a b).y := by rw [w64]; unfold way; simp only; omega
  have X := Lib.hid x1; have Y := Lib.hid y1; clear x1 y1 ha hb
  generalize (way a b).x = u at *
  generalize (way a b).y = v at *
  go_enter Try.func87, Try.ntmps87
  go_wp2
  refine bodyPost_ret (v := .agg #[.int .i64 u, .int .i64 v]) (by simp [results, Try.results87, go_sem, X.out, Y.out]) rfl ⟨rfl, by go_grown⟩
theorem mul_sm {a b : Int} (ha : sm a) (hb : sm b) : -281474943156225 ≤ a * b ∧ a * b ≤ 281474943156225 := by
  unfold sm at ha hb
  have h1 : a.natAbs ≤ 16777215 := by omega
  have h2 : b.natAbs ≤ 16777215 := by omega
  have h3 := Nat.mul_le_mul h1 h2
  rw [← Int.natAbs_mul] at h3
  generalize a * b = p at *
  omega
theorem sq_pos (a : Int) : 0 ≤ a * a := by
  rcases Int.le_total 0 a with h | h
  · exact Int.mul_nonneg h h
  · exact Int.mul_nonneg_of_nonpos_of_nonpos h h
def cr (u v : Pt) : Int := u.x * v.y - u.y * v.x
def ht (u : Pt) : Int := u.x * u.x + u.y * u.y
theorem cr_bd {u v : Pt} (hu : smP u) (hv : smP v) : -562949886312450 ≤ cr u v ∧ cr u v ≤ 562949886312450 := by
  have h1 := mul_sm hu.1 hv.2
  have h2 := mul_sm hu.2 hv.1
  unfold cr; omega
theorem ht_bd {u : Pt} (hu : smP u) : 0 ≤ ht u ∧ ht u ≤ 562949886312450 := by
  have h1 := mul_sm hu.1 hu.1
  have h2 := mul_sm hu.2 hu.2
  have h3 := sq_pos u.x
  have h4 := sq_pos u.y
  unfold ht; omega
theorem cross_any (u v : Pt) (hu : smP u) (hv : smP v) (w : World) :
    Calls Try.prog 86 #[.agg #[.int .i64 u.x, .int .i64 u.y], .agg #[.int .i64 v.x, .int .i64 v.y]] w fun e w' => e = .returned (.int .i64 (cr u v)) ∧ Below w.heap.size w w' := by
  have h1 := mul_sm hu.1 hv.2
  have h2 := mul_sm hu.2 hv.1
  have e : wrap64 (wrap64 (u.x * v.y) - wrap64 (u.y * v.x)) = cr u v := by
    simp only [w64]; unfold cr
    generalize u.x * v.y = p at *
    generalize u.y * v.x = q at *
    omega
  have E := Lib.hid e; clear e h1 h2 hu hv
  go_enter Try.func86, Try.ntmps86
  go_wp2
  go_ret
  exact ⟨ret_int (by simpa using E.out), by go_grown⟩
end Go.Proofs.Ytnocdecimcpkfaa

namespace Go.Proofs.Ytnocdecimcpkfaa
open Go.RowKit Go.Sort
attribute [local go_sem] rOper rAt rUpon cell_set sg_i64 sg_u64 alloc_cell alloc_frozen
attribute [local irreducible] rWalk

theorem same_below {P : Program} {f : FuncId} {args : Array Value} {E : Ending} (h : ∀ w, Calls P f args w fun e w' => e = E ∧ w = w') (w : World) : Calls P f args w fun e w' => e = E ∧ Below w.heap.size w w' :=
  (h w).mono fun e w' h => ⟨h.1, by rw [h.2]; exact Below.refl _ _⟩
theorem orient_bad0 (a b c : Pt)  (ha : vld a = false) (w : World) :
    Calls Try.prog 68 #[.agg #[.int .i64 a.x, .int .i64 a.y], .agg #[.int .i64 b.x, .int .i64 b.y], .agg #[.int .i64 c.x, .int .i64 c.y]] w fun e w' => e = .returned (.int .i64 0) ∧ Below w.heap.size w w' := by
  have ca := valid_any a
  rw [ha] at ca
  clear ha
  go_enter Try.func68, Try.ntmps68
  go_wp2_with fail
  refine at_call fun W1 hW => ?_
  have Ba : Box W1 (w.heap.size) [.int .i64 a.x, .int .i64 a.y] 33 := by rw [hW]; exact ((Box.new rfl).old _).old _
  have Bb : Box W1 (w.heap.size + 1) [.int .i64 b.x, .int .i64 b.y] 33 := by rw [hW]; exact (Box.new (by simp)).old _
  have Bc : Box W1 (w.heap.size + 1 + 1) [.int .i64 c.x, .int .i64 c.y] 33 := by rw [hW]; exact Box.new (by simp)
  have hw : Below w.heap.size w W1 := by rw [hW]; go_grown
  clear hW
  refine (ca _).mono ?_
  rintro e w2 ⟨rfl, hb⟩
  replace Ba := Ba.ext hb rfl
  replace Bb := Bb.ext hb rfl
  replace Bc := Bc.ext hb rfl
  replace hw := hw.trans (hb.mono hw.size)
  clear hb
  obtain ⟨xa, ya, za, va⟩ := Ba.facts
  obtain ⟨xb, yb, zb, vb⟩ := Bb.facts
  obtain ⟨xc, yc, zc, vc⟩ := Bc.facts
  go_wp2
  go_ret
  exact ⟨rfl, hw⟩

theorem orient_bad1 (a b c : Pt) (ha : vld a = true) (hb : vld b = false) (w : World) :
    Calls Try.prog 68 #[.agg #[.int .i64 a.x, .int .i64 a.y], .agg #[.int .i64 b.x, .int .i64 b.y], .agg #[.int .i64 c.x, .int .i64 c.y]] w fun e w' => e = .returned (.int .i64 0) ∧ Below w.heap.size w w' := by
  have ca := valid_any a
  rw [ha] at ca
  clear ha
  have cb := valid_any b
  rw [hb] at cb
  clear hb
  go_enter Try.func68, Try.ntmps68
  go_wp2_with fail
  refine at_call fun W1 hW => ?_
  have Ba : Box W1 (w.heap.size) [.int .i64 a.x, .int .i64 a.y] 33 := by rw [hW]; exact ((Box.new rfl).old _).old _
  have Bb : Box W1 (w.heap.size + 1) [.int .i64 b.x, .int .i64 b.y] 33 := by rw [hW]; exact (Box.new (by simp)).old _
  have Bc : Box W1 (w.heap.size + 1 + 1) [.int .i64 c.x, .int .i64 c.y] 33 := by rw [hW]; exact Box.new (by simp)
  have hw : Below w.heap.size w W1 := by rw [hW]; go_grown
  clear hW
  refine (ca _).mono ?_
  rintro e w2 ⟨rfl, hb⟩
  replace Ba := Ba.ext hb rfl
  replace Bb := Bb.ext hb rfl
  replace Bc := Bc.ext hb rfl
  replace hw := hw.trans (hb.mono hw.size)
  clear hb
  obtain ⟨xa, ya, za, va⟩ := Ba.facts
  obtain ⟨xb, yb, zb, vb⟩ := Bb.facts
  obtain ⟨xc, yc, zc, vc⟩ := Bc.facts
  go_wp2_with fail
  refine (cb _).mono ?_
  rintro e w3 ⟨rfl, hb⟩
  clear xa ya za va xb yb zb vb xc yc zc vc
  replace Ba := Ba.ext hb rfl
  replace Bb := Bb.ext hb rfl
  replace Bc := Bc.ext hb rfl
  replace hw := hw.trans (hb.mono hw.size)
  clear hb
  obtain ⟨xa, ya, za, va⟩ := Ba.facts
  obtain ⟨xb, yb, zb, vb⟩ := Bb.facts
  obtain ⟨xc, yc, zc, vc⟩ := Bc.facts
  go_wp2
  go_ret
  exact ⟨rfl, hw⟩

theorem orient_bad2 (a b c : Pt) (ha : vld a = true) (hb : vld b = true) (hc : vld c = false) (w : World) :
    Calls Try.prog 68 #[.agg #[.int .i64 a.x, .int .i64 a.y], .agg #[.int .i64 b.x, .int .i64 b.y], .agg #[.int .i64 c.x, .int .i64 c.y]] w fun e w' => e = .returned (.int .i64 0) ∧ Below w.heap.size w w' := by
  have ca := valid_any a
  rw [ha] at ca
  clear ha
  have cb := valid_any b
  rw [hb] at cb
  clear hb
  have cc := valid_any c
  rw [hc] at cc
  clear hc
  go_enter Try.func68, Try.ntmps68
  go_wp2_with fail
  refine at_call fun W1 hW => ?_
  have Ba : Box W1 (w.heap.size) [.int .i64 a.x, .int .i64 a.y] 33 := by rw [hW]; exact ((Box.new rfl).old _).old _
  have Bb : Box W1 (w.heap.size + 1) [.int .i64 b.x, .int .i64 b.y] 33 := by rw [hW]; exact (Box.new (by simp)).old _
  have Bc : Box W1 (w.heap.size + 1 + 1) [.int .i64 c.x, .int .i64 c.y] 33 := by rw [hW]; exact Box.new (by simp)
  have hw : Below w.heap.size w W1 := by rw [hW]; go_grown
  clear hW
  refine (ca _).mono ?_
  rintro e w2 ⟨rfl, hb⟩
  replace Ba := Ba.ext hb rfl
  replace Bb := Bb.ext hb rfl
  replace Bc := Bc.ext hb rfl
  replace hw := hw.trans (hb.mono hw.size)
  clear hb
  obtain ⟨xa, ya, za, va⟩ := Ba.facts
  obtain ⟨xb, yb, zb, vb⟩ := Bb.facts
  obtain ⟨xc, yc, zc, vc⟩ := Bc.facts
  go_wp2_with fail
  refine (cb _).mono ?_
  rintro e w3 ⟨rfl, hb⟩
  clear xa ya za va xb yb zb vb xc yc zc vc
  replace Ba := Ba.ext hb rfl
  replace Bb := Bb.ext hb rfl
  replace Bc := Bc.ext hb rfl
  replace hw := hw.trans (hb.mono hw.size)
  clear hb
  obtain ⟨xa, ya, za, va⟩ := Ba.facts
  obtain ⟨xb, yb, zb, vb⟩ := Bb.facts
  obtain ⟨xc, yc, zc, vc⟩ := Bc.facts
  go_wp2_with fail
  refine (cc _).mono ?_
  rintro e w4 ⟨rfl, hb⟩
  clear xa ya za va xb yb zb vb xc yc zc vc
  replace Ba := Ba.ext hb rfl
  replace Bb := Bb.ext hb rfl
  replace Bc := Bc.ext hb rfl
  replace hw := hw.trans (hb.mono hw.size)
  clear hb
  obtain ⟨xa, ya, za, va⟩ := Ba.facts
  obtain ⟨xb, yb, zb, vb⟩ := Bb.facts
  obtain ⟨xc, yc, zc, vc⟩ := Bc.facts
  go_wp2
  go_ret
  exact ⟨rfl, hw⟩

theorem orient_ok (a b c : Pt) (ha : vld a = true) (hb : vld b = true) (hc : vld c = true) (w : World) :
    Calls Try.prog 68 #[.agg #[.int .i64 a.x, .int .i64 a.y], .agg #[.int .i64 b.x, .int .i64 b.y], .agg #[.int .i64 c.x, .int .i64 c.y]] w fun e w' => e = .returned (.int .i64 (sgn (det a b c))) ∧ Below w.heap.size w w' := by
  have ca := valid_any a
  rw [ha] at ca
  have cb := valid_any b
  rw [hb] at cb
  have cc := valid_any c
  rw [hc] at cc
  have d1 := away_any a b ha hb
  have d2 := away_any a c ha hc
  have d3 := cross_any (way a b) (way a c) (way_sm ha hb) (way_sm ha hc)
  have d4 := same_below (cmp_int (cr (way a b) (way a c)) 0)
  have ed : cmpN (cr (way a b) (way a c)) 0 = sgn (det a b c) := by
    unfold cmpN cr way det; simp only [Int.sub_zero]
  rw [ed] at d4
  clear ha hb hc ed
  generalize way a b = u at *
  generalize way a c = v at *
  go_enter Try.func68, Try.ntmps68
  go_wp2_with fail
  refine at_call fun W1 hW => ?_
  have Ba : Box W1 (w.heap.size) [.int .i64 a.x, .int .i64 a.y] 33 := by rw [hW]; exact ((Box.new rfl).old _).old _
  have Bb : Box W1 (w.heap.size + 1) [.int .i64 b.x, .int .i64 b.y] 33 := by rw [hW]; exact (Box.new (by simp)).old _
  have Bc : Box W1 (w.heap.size + 1 + 1) [.int .i64 c.x, .int .i64 c.y] 33 := by rw [hW]; exact Box.new (by simp)
  have hw : Below w.heap.size w W1 := by rw [hW]; go_grown
  clear hW
  refine (ca _).mono ?_
  rintro e w2 ⟨rfl, hb⟩
  replace Ba := Ba.ext hb rfl
  replace Bb := Bb.ext hb rfl
  replace Bc := Bc.ext hb rfl
  replace hw := hw.trans (hb.mono hw.size)
  clear hb
  obtain ⟨xa, ya, za, va⟩ := Ba.facts
  obtain ⟨xb, yb, zb, vb⟩ := Bb.facts
  obtain ⟨xc, yc, zc, vc⟩ := Bc.facts
  go_wp2_with fail
  refine (cb _).mono ?_
  rintro e w3 ⟨rfl, hb⟩
  clear xa ya za va xb yb zb vb xc yc zc vc
  replace Ba := Ba.ext hb rfl
  replace Bb := Bb.ext hb rfl
  replace Bc := Bc.ext hb rfl
  replace hw := hw.trans (hb.mono hw.size)
  clear hb
  obtain ⟨xa, ya, za, va⟩ := Ba.facts
  obtain ⟨xb, yb, zb, vb⟩ := Bb.facts
  obtain ⟨xc, yc, zc, vc⟩ := Bc.facts
  go_wp2_with fail
  refine (cc _).mono ?_
  rintro e w4 ⟨rfl, hb⟩
  clear xa ya za va xb yb zb vb xc yc zc vc
  replace Ba := Ba.ext hb rfl
  replace Bb := Bb.ext hb rfl
  replace Bc := Bc.ext hb rfl
  replace hw := hw.trans (hb.mono hw.size)
  clear hb
  obtain ⟨xa, ya, za, va⟩ := Ba.facts
  obtain ⟨xb, yb, zb, vb⟩ := Bb.facts
  obtain ⟨xc, yc, zc, vc⟩ := Bc.facts
  go_wp2
  refine at_world fun W9 hW => ?_
  replace hw : Below w.heap.size w W9 := by rw [hW]; exact hw
  replace Ba : Box W9 (w.heap.size) [.int .i64 a.x, .int .i64 a.y] 33 := by rw [hW]; exact Ba
  replace Bb : Box W9 (w.heap.size + 1) [.int .i64 b.x, .int .i64 b.y] 33 := by rw [hW]; exact Bb
  replace Bc : Box W9 (w.heap.size + 1 + 1) [.int .i64 c.x, .int .i64 c.y] 33 := by rw [hW]; exact Bc
  clear hW
  clear xa ya za va xb yb zb vb xc yc zc vc
  have ga := Ba.cells
  have gb := Bb.cells
  have gc := Bc.cells
  refine wp_region_tail 8 (by kernel_rfl) (by kernel_rfl) (C := fun w' => ∃ p : Regrown, w' = grow (redrawn W9 p.d) p.os) (fun w' h => regrown_of_below h) ?_
  simp only [List.take_succ_cons, List.take_zero, List.drop_succ_cons, List.drop_zero]
  repeat (first | (refine rWalk_skip (Eq.refl false) ?_; simp only [Act.put, List.setIfInBounds_toArray, List.set_cons_succ, List.set_cons_zero]) | (refine rWalk_step (fun K hK => ?_); go_simp; first | (refine hK _ ?_; clear hK K) | (apply Exists.intro; refine ⟨fun _ => ?_, hK _ ?_⟩; (first | with_reducible exact toExt d1 _ | with_reducible exact toExt d2 _ | with_reducible exact toExt d3 _ | with_reducible exact toExt d4 _); clear hK K)))
  refine rWalk_nil ?_
  intro w5 hb
  clear ga gb gc
  replace Ba := Ba.ext hb rfl
  replace Bb := Bb.ext hb rfl
  replace Bc := Bc.ext hb rfl
  replace hw := hw.trans (hb.mono hw.size)
  go_wp2
  go_ret
  exact ⟨rfl, hw⟩

theorem orient_any (a b c : Pt) (w : World) :
    Calls Try.prog 68 #[.agg #[.int .i64 a.x, .int .i64 a.y], .agg #[.int .i64 b.x, .int .i64 b.y], .agg #[.int .i64 c.x, .int .i64 c.y]] w fun e w' => e = .returned (.int .i64 (ori a b c)) ∧ Below w.heap.size w w' := by
  cases ha : vld a with
  | false => rw [show ori a b c = 0 by simp [ori, ha]]; exact orient_bad0 a b c ha w
  | true => cases hb : vld b with
    | false => rw [show ori a b c = 0 by simp [ori, hb]]; exact orient_bad1 a b c ha hb w
    | true => cases hc : vld c with
      | false => rw [show ori a b c = 0 by simp [ori, hc]]; exact orient_bad2 a b c ha hb hc w
      | true => rw [show ori a b c = sgn (det a b c) by simp [ori, ha, hb, hc]]; exact orient_ok a b c ha hb hc w
end Go.Proofs.Ytnocdecimcpkfaa
