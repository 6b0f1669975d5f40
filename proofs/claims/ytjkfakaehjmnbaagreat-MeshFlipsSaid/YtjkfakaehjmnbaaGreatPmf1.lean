/- Put together: ExA, Post, ExB, ExC, Many, Late, Slip, WideB, WideD. -/
import Derived.Test.YtjkfakaehjmnbaaGreatRows
import Derived.Test.YtjkfakaehjmnbaaGreatPmf0
import Derived.WalkKit
import Derived.WalkSpells
import Derived.WalkLawsBesides
import Derived.Laws.Externs
import Derived.Deep.QuietTactic
import Derived.BigQuiet
import Derived.Lib.Hide
import Derived.Handy
import Derived.ProofKit
import Derived.Below
import Derived.ChangeSame
set_option maxRecDepth 100000
set_option maxHeartbeats 8000000
namespace Go.Proofs.YtjkfakaehjmnbaaGreat
open Go.RowKit
attribute [local go_sem] rOper rAt rUpon cell_set sg_i64 sg_u64 alloc_cell alloc_frozen
theorem inGrid_any (n : Int) (w : World) :
    Calls Tryz.prog 128 #[.int .i64 n] w fun e w' => e = .returned (.bool (inG n)) ∧ w = w' := by
 go_enter Tryz.func128, Tryz.ntmps128
 go_wp2;all_goals go_ret
 all_goals exact ⟨zCr (by simp [inG]; omega), rfl⟩
theorem zHq (a b : Int) (w : World) :
    Calls Tryz.prog 122 #[.int .i64 a, .int .i64 b] w fun e w' => e = .returned (.int .i64 (cmpN a b)) ∧ w = w' := by
 go_enter Tryz.func122, Tryz.ntmps122
 go_wp2;all_goals go_ret
 ·exact ⟨zAu (by unfold cmpN sgn; rw [if_pos (by omega)]), rfl⟩
 ·exact ⟨zAu (by unfold cmpN sgn; rw [if_neg (by omega), if_pos (by omega)]), rfl⟩
 ·exact ⟨zAu (by unfold cmpN sgn; rw [if_neg (by omega), if_neg (by omega)]), rfl⟩
theorem zA4 (p : Pt) (w : World) :
    Calls Tryz.prog 102 #[.agg #[.int .i64 p.x, .int .i64 p.y]] w fun e w' => e = .returned (.bool (vld p)) ∧ Below w.heap.size w w' := by
 have hv : vld p = (inG p.x && inG p.y) := rfl;have Hv := Lib.hid hv; clear hv
 go_enter Tryz.func102, Tryz.ntmps102
 go_wp2_with (go_at_call 128; refine (inGrid_any _ _).mono ?_; rintro e w' ⟨rfl, rfl⟩)
 all_goals go_returns
 all_goals exact ⟨zCr (by rw [Hv.out]; simp [*]), by go_grown⟩
def peqI (a b c d : Int) : Bool := decide (a = c) && decide (b = d)
theorem pt_eql (a b c d : Int) (w : World) : (binOp .eql 30 (.agg #[.int .i64 a, .int .i64 b]) (.agg #[.int .i64 c, .int .i64 d])).run Tryz.prog w = .ok (.bool (peqI a b c d)) w := by
 unfold peqI;by_cases h1 : a = c <;> by_cases h2 : b = d <;> simp [go_sem, h1, h2]
theorem pt_neq (a b c d : Int) (w : World) : (binOp .neq 30 (.agg #[.int .i64 a, .int .i64 b]) (.agg #[.int .i64 c, .int .i64 d])).run Tryz.prog w = .ok (.bool (!peqI a b c d)) w := by
 unfold peqI;by_cases h1 : a = c <;> by_cases h2 : b = d <;> simp [go_sem, h1, h2]
theorem zBx {a b c d : Int} : peqI a b c d = true ↔ a = c ∧ b = d := by simp [peqI]
end Go.Proofs.YtjkfakaehjmnbaaGreat
namespace Go.Proofs.YtjkfakaehjmnbaaGreat
open Go.RowKit Go.WideShapes Go.ChangeShapes
theorem Tryz.own : ownKnob Tryz.prog.godebug = none := by kernel_rfl
theorem zA0 {P : Program} {ops : Array Oper} {C : World → Prop} {Q : Act → Prop} {a : Act} {o : Oper} {rest : List Oper} (hg : Region.wanted o (yielded ops a.tmps) = false) (h : rWalk P ops C Q rest (a.put o.dst undef)) : rWalk P ops C Q (o :: rest) a := by
 simp only [rWalk]; rw [hg, if_neg (by simp)]; exact h
theorem toExt {P : Program} {f : FuncId} {args : Array Value} {v : Value} (c : ∀ w : World, Calls P f args w fun e w' => e = .returned v ∧ Below w.heap.size w w') : ∀ w : World, Calls P f args w fun e w' => e = .returned v ∧ Ext w w' := c
section
variable {H : Type} {enc : TypeId × Value → H} {P : Program}
theorem post_of_below {f : Func} {s : ChangeSpec} {apart fresh handsOn again : Bool} {W W' : World} {args : Array Value} {v : Value} {ds gs : List (DataW H)} {before pa pv : List MemPlace}
    (hW : DataW.Whole enc P f.params.toList s.vars apart W args.toList ds gs before)
    (hres : ∀ (b : Nat) (sp : Nat → Bool) (hd : Bool), DataW.TrodAll enc P W' b sp hd f.resultTypes.toList (v.resultList f.resultTypes.size) (s.fn H (ds ++ gs)).results [])
    (hargs : ∀ sp : Nat → Bool, (∀ p ∈ before, sp p.block = true) → DataW.TrodAll enc P W' 0 sp true f.params.toList args.toList (s.fn H (ds ++ gs)).args pa)
    (hvars : ∀ sp : Nat → Bool, (∀ p ∈ before, sp p.block = true) → DataW.TrodVars enc P W' sp s.vars (s.fn H (ds ++ gs)).vars pv)
    (hps : before = pa ++ pv) (hb : Below W.heap.size W W')
    (hok : ∀ (j : Nat) (t : TypeId) (r : Value), f.resultTypes[j]? = some t → (v.resultList f.resultTypes.size)[j]? = some r → Value.okWide P W' .any 0 t r) :
    s.post enc P f apart fresh handsOn again W args v W' := by
 have hlt : ∀ p ∈ before, p.block < W.heap.size := fun p hp => hW.lt p hp;have hold : ∀ p ∈ before, (fun b => decide (b < W.heap.size)) p.block = true := fun p hp => by simpa using hlt p hp
 refine ⟨ds, gs, before, [], pa, pv, hW, hres _ _ _, hargs _ hold, hvars _ hold, World.keptBut_mono (fun p hp => ⟨hp, ?_⟩) (hb.frame (· ∈ before)), fun _ => ?_⟩
 ·rw [hps, List.mem_append] at hp;exact Or.inr hp
 ·obtain ⟨_, _, _, _, _, hz, hn⟩ := hW;refine ⟨hok, _, _, ([] ++ pa) ++ pv, ⟨[] ++ pa, pv, trodAll_append (hargs _ (fun _ _ => rfl)) (hres _ _ _), hvars _ (fun _ _ => rfl), rfl, ?_, ?_⟩, ?_⟩
  ·intro b off hp;have hin : MemPlace.cell b off ∈ before := by rw [hps]; simpa using hp
   rw [hb.frozen (hlt _ hin)];exact hz b off hin
  ·intro ha;have := hn ha;rw [hps] at this
   simpa using this
  ·intro p hp _;rw [hps]
   simpa using hp
end
end Go.Proofs.YtjkfakaehjmnbaaGreat
namespace Go.Proofs.YtjkfakaehjmnbaaGreat
open Go.RowKit Go.Sort
attribute [local go_sem] rOper rAt rUpon cell_set sg_i64 sg_u64 alloc_cell alloc_frozen
attribute [local irreducible] rWalk
theorem zAv (p q : Pt) (w : World) :
    Calls Tryz.prog 81 #[.agg #[.int .i64 p.x, .int .i64 p.y], .agg #[.int .i64 q.x, .int .i64 q.y]] w fun e w' => e = .returned (.int .i64 (cmpP p q)) ∧ Below w.heap.size w w' := by
 by_cases h : p.x = q.x
 ·have e1 : (p.x != q.x) = false := by simp [h]
  have e2 : cmpP p q = cmpN p.y q.y := by unfold cmpP; rw [if_pos h]
  rw [e2];clear e2 h
  go_enter Tryz.func81, Tryz.ntmps81
  go_wp2_with (go_at_call 122; refine (zHq _ _ _).mono ?_; rintro e w' ⟨rfl, rfl⟩)
  go_returns
  exact ⟨rfl, by go_grown⟩
 ·have e1 : (p.x != q.x) = true := by simp [h]
  have e2 : cmpP p q = cmpN p.x q.x := by unfold cmpP; rw [if_neg h]
  rw [e2];clear e2 h
  go_enter Tryz.func81, Tryz.ntmps81
  go_wp2_with (go_at_call 122; refine (zHq _ _ _).mono ?_; rintro e w' ⟨rfl, rfl⟩)
  go_returns
  exact ⟨rfl, by go_grown⟩
def way (a b : Pt) : Pt := ⟨b.x - a.x, b.y - a.y⟩
def sm (n : Int) : Prop := -16777215 ≤ n ∧ n ≤ 16777215
def smP (p : Pt) : Prop := sm p.x ∧ sm p.y
theorem zEp {a b : Pt} (ha : vld a = true) (hb : vld b = true) : smP (way a b) := by
 rw [zAx] at ha hb; unfold smP sm way; simp only; omega
theorem zK6 (a b : Pt) (ha : vld a = true) (hb : vld b = true) (w : World) :
    Calls Tryz.prog 130 #[.agg #[.int .i64 a.x, .int .i64 a.y], .agg #[.int .i64 b.x, .int .i64 b.y]] w fun e w' => e = .returned (.agg #[.int .i64 (way a b).x, .int .i64 (way a b).y]) ∧ Below w.heap.size w w' := by
 rw [zAx] at ha hb;have x1 : wrap64 (b.x - a.x) = (way a b).x := by rw [w64]; unfold way; simp only; omega
 have y1 : wrap64 (b.y - a.y) = (way a b).y := by rw [w64]; unfold way; simp only; omega
 have X := Lib.hid x1; have Y := Lib.hid y1; clear x1 y1 ha hb;generalize (way a b).x = u at *
 generalize (way a b).y = v at *
 go_enter Tryz.func130, Tryz.ntmps130
 go_wp2;refine bodyPost_ret (v := .agg #[.int .i64 u, .int .i64 v]) (by simp [results, Tryz.results130, go_sem, X.out, Y.out]) rfl ⟨rfl, by go_grown⟩
theorem zBi {a b : Int} (ha : sm a) (hb : sm b) : -281474943156225 ≤ a * b ∧ a * b ≤ 281474943156225 := by
 unfold sm at ha hb;have h1 : a.natAbs ≤ 16777215 := by omega
 have h2 : b.natAbs ≤ 16777215 := by omega
 have h3 := Nat.mul_le_mul h1 h2;rw [← Int.natAbs_mul] at h3;generalize a * b = p at *
 omega
theorem zDa (a : Int) : 0 ≤ a * a := by
 rcases Int.le_total 0 a with h | h
 ·exact Int.mul_nonneg h h
 ·exact Int.mul_nonneg_of_nonpos_of_nonpos h h
def cr (u v : Pt) : Int := u.x * v.y - u.y * v.x
def ht (u : Pt) : Int := u.x * u.x + u.y * u.y
theorem cr_bd {u v : Pt} (hu : smP u) (hv : smP v) : -562949886312450 ≤ cr u v ∧ cr u v ≤ 562949886312450 := by
 have h1 := zBi hu.1 hv.2;have h2 := zBi hu.2 hv.1;unfold cr; omega
theorem cross_any (u v : Pt) (hu : smP u) (hv : smP v) (w : World) :
    Calls Tryz.prog 129 #[.agg #[.int .i64 u.x, .int .i64 u.y], .agg #[.int .i64 v.x, .int .i64 v.y]] w fun e w' => e = .returned (.int .i64 (cr u v)) ∧ Below w.heap.size w w' := by
 have h1 := zBi hu.1 hv.2;have h2 := zBi hu.2 hv.1;have e : wrap64 (wrap64 (u.x * v.y) - wrap64 (u.y * v.x)) = cr u v := by
  simp only [w64]; unfold cr;generalize u.x * v.y = p at *
  generalize u.y * v.x = q at *
  omega
 have E := Lib.hid e; clear e h1 h2 hu hv
 go_enter Tryz.func129, Tryz.ntmps129
 go_wp2
 go_ret
 exact ⟨zAu (by simpa using E.out), by go_grown⟩
theorem zCp {P : Program} {f : FuncId} {args : Array Value} {E : Ending} (h : ∀ w, Calls P f args w fun e w' => e = E ∧ w = w') (w : World) : Calls P f args w fun e w' => e = E ∧ Below w.heap.size w w' :=
 (h w).mono fun e w' h => ⟨h.1, by rw [h.2]; exact Below.refl _ _⟩
theorem orient_bad0 (a b c : Pt)  (ha : vld a = false) (w : World) :
    Calls Tryz.prog 103 #[.agg #[.int .i64 a.x, .int .i64 a.y], .agg #[.int .i64 b.x, .int .i64 b.y], .agg #[.int .i64 c.x, .int .i64 c.y]] w fun e w' => e = .returned (.int .i64 0) ∧ Below w.heap.size w w' := by
 have ca := zA4 a;rw [ha] at ca;clear ha
 go_enter Tryz.func103, Tryz.ntmps103
 go_wp2_with fail;refine zA1 fun W1 hW => ?_;obtain ⟨Ba, Bb, Bc, hw⟩ := N3 hW;clear hW;refine (ca _).mono ?_;rintro e w2 ⟨rfl, hb⟩;obtain ⟨Ba, Bb, Bc, hw, F_abc⟩ := X3 Ba Bb Bc hw hb;clear hb;go_wp2
 go_ret
 exact ⟨rfl, hw⟩
theorem orient_bad1 (a b c : Pt) (ha : vld a = true) (hb : vld b = false) (w : World) :
    Calls Tryz.prog 103 #[.agg #[.int .i64 a.x, .int .i64 a.y], .agg #[.int .i64 b.x, .int .i64 b.y], .agg #[.int .i64 c.x, .int .i64 c.y]] w fun e w' => e = .returned (.int .i64 0) ∧ Below w.heap.size w w' := by
 have ca := zA4 a;rw [ha] at ca;clear ha;have cb := zA4 b;rw [hb] at cb;clear hb
 go_enter Tryz.func103, Tryz.ntmps103
 go_wp2_with fail;refine zA1 fun W1 hW => ?_;obtain ⟨Ba, Bb, Bc, hw⟩ := N3 hW;clear hW;refine (ca _).mono ?_;rintro e w2 ⟨rfl, hb⟩;obtain ⟨Ba, Bb, Bc, hw, F_abc⟩ := X3 Ba Bb Bc hw hb;clear hb;go_wp2_with fail;refine (cb _).mono ?_;rintro e w3 ⟨rfl, hb⟩;clear F_abc;obtain ⟨Ba, Bb, Bc, hw, F_abc⟩ := X3 Ba Bb Bc hw hb;clear hb;go_wp2
 go_ret
 exact ⟨rfl, hw⟩
theorem orient_bad2 (a b c : Pt) (ha : vld a = true) (hb : vld b = true) (hc : vld c = false) (w : World) :
    Calls Tryz.prog 103 #[.agg #[.int .i64 a.x, .int .i64 a.y], .agg #[.int .i64 b.x, .int .i64 b.y], .agg #[.int .i64 c.x, .int .i64 c.y]] w fun e w' => e = .returned (.int .i64 0) ∧ Below w.heap.size w w' := by
 have ca := zA4 a;rw [ha] at ca;clear ha;have cb := zA4 b;rw [hb] at cb;clear hb;have cc := zA4 c;rw [hc] at cc;clear hc
 go_enter Tryz.func103, Tryz.ntmps103
 go_wp2_with fail;refine zA1 fun W1 hW => ?_;obtain ⟨Ba, Bb, Bc, hw⟩ := N3 hW;clear hW;refine (ca _).mono ?_;rintro e w2 ⟨rfl, hb⟩;obtain ⟨Ba, Bb, Bc, hw, F_abc⟩ := X3 Ba Bb Bc hw hb;clear hb;go_wp2_with fail;refine (cb _).mono ?_;rintro e w3 ⟨rfl, hb⟩;clear F_abc;obtain ⟨Ba, Bb, Bc, hw, F_abc⟩ := X3 Ba Bb Bc hw hb;clear hb;go_wp2_with fail;refine (cc _).mono ?_;rintro e w4 ⟨rfl, hb⟩;clear F_abc;obtain ⟨Ba, Bb, Bc, hw, F_abc⟩ := X3 Ba Bb Bc hw hb;clear hb;go_wp2
 go_ret
 exact ⟨rfl, hw⟩
theorem orient_ok (a b c : Pt) (ha : vld a = true) (hb : vld b = true) (hc : vld c = true) (w : World) :
    Calls Tryz.prog 103 #[.agg #[.int .i64 a.x, .int .i64 a.y], .agg #[.int .i64 b.x, .int .i64 b.y], .agg #[.int .i64 c.x, .int .i64 c.y]] w fun e w' => e = .returned (.int .i64 (sgn (det a b c))) ∧ Below w.heap.size w w' := by
 have ca := zA4 a;rw [ha] at ca;have cb := zA4 b;rw [hb] at cb;have cc := zA4 c;rw [hc] at cc;have d1 := zK6 a b ha hb;have d2 := zK6 a c ha hc;have d3 := cross_any (way a b) (way a c) (zEp ha hb) (zEp ha hc);have d4 := zCp (zHq (cr (way a b) (way a c)) 0);have ed : cmpN (cr (way a b) (way a c)) 0 = sgn (det a b c) := by
  unfold cmpN cr way det; simp only [Int.sub_zero]
 rw [ed] at d4;clear ha hb hc ed;generalize way a b = u at *
 generalize way a c = v at *
 go_enter Tryz.func103, Tryz.ntmps103
 go_wp2_with fail;refine zA1 fun W1 hW => ?_;obtain ⟨Ba, Bb, Bc, hw⟩ := N3 hW;clear hW;refine (ca _).mono ?_;rintro e w2 ⟨rfl, hb⟩;obtain ⟨Ba, Bb, Bc, hw, F_abc⟩ := X3 Ba Bb Bc hw hb;clear hb;go_wp2_with fail;refine (cb _).mono ?_;rintro e w3 ⟨rfl, hb⟩;clear F_abc;obtain ⟨Ba, Bb, Bc, hw, F_abc⟩ := X3 Ba Bb Bc hw hb;clear hb;go_wp2_with fail;refine (cc _).mono ?_;rintro e w4 ⟨rfl, hb⟩;clear F_abc;obtain ⟨Ba, Bb, Bc, hw, F_abc⟩ := X3 Ba Bb Bc hw hb;clear hb;go_wp2;refine zA2 fun W9 hW => ?_;subst hW;clear F_abc;have g_abc := J3 Ba.cells Bb.cells Bc.cells;refine wrt 8 (by kernel_rfl) (by kernel_rfl) ?_;simp only [tK1, tK0, dP1, dP0];repeat (first | (refine zA0 (Eq.refl false) ?_; simp only [Act.put, sT2, sT1, sT0]) | (refine rWalk_step (fun K hK => ?_); go_simp; first | (refine hK _ ?_; clear hK K) | (apply Exists.intro; refine ⟨fun _ => ?_, hK _ ?_⟩; (first | with_reducible exact toExt d1 _ | with_reducible exact toExt d2 _ | with_reducible exact toExt d3 _ | with_reducible exact toExt d4 _); clear hK K)))
 refine rWalk_nil ?_;intro w5 hb;clear g_abc;obtain ⟨Ba, Bb, Bc, hw, -⟩ := X3 Ba Bb Bc hw hb;go_wp2
 go_ret
 exact ⟨rfl, hw⟩
theorem zA8 (a b c : Pt) (w : World) :
    Calls Tryz.prog 103 #[.agg #[.int .i64 a.x, .int .i64 a.y], .agg #[.int .i64 b.x, .int .i64 b.y], .agg #[.int .i64 c.x, .int .i64 c.y]] w fun e w' => e = .returned (.int .i64 (ori a b c)) ∧ Below w.heap.size w w' := by
 cases ha : vld a with
 | false => rw [show ori a b c = 0 by simp [ori, ha]]; exact orient_bad0 a b c ha w
 | true => cases hb : vld b with
  | false => rw [show ori a b c = 0 by simp [ori, hb]]; exact orient_bad1 a b c ha hb w
  | true => cases hc : vld c with
   | false => rw [show ori a b c = 0 by simp [ori, hc]]; exact orient_bad2 a b c ha hb hc w
   | true => rw [show ori a b c = sgn (det a b c) by simp [ori, ha, hb, hc]]; exact orient_ok a b c ha hb hc w
end Go.Proofs.YtjkfakaehjmnbaaGreat
namespace Go.Proofs.YtjkfakaehjmnbaaGreat
open Go.RowKit Go.Sort
section
variable {P : Program} {ops : Array Oper} {md : Region.Mode} {C : World → Prop}
structure Lay where
 at_ : Nat
 slot : Tmp
 type : TypeId
 cells : List Value
def putD (β : Tmp → Nat) : List Tmp → Act → Act
 | [], a => a
 | d :: l, a => (putD β l a).put (some d) (.pointer (some ⟨β d, 0, none⟩))
theorem zJk {β : Tmp → Nat} {x : Option Tmp} {v : Value} : ∀ {l : List Tmp} {a : Act}, (∀ d, d ∈ l → x ≠ some d) → putD β l (a.put x v) = (putD β l a).put x v
 | [], _, _ => rfl
 | d :: l, a, h => by
  simp only [putD];rw [zJk (fun d' h' => h d' (List.mem_cons_of_mem _ h'))];exact Act.put_comm _ v _ (fun d' hd' hd => h d List.mem_cons_self (by rw [hd', ← hd]))
theorem zHe {β β' : Tmp → Nat} : ∀ {l : List Tmp} {a : Act}, (∀ d, d ∈ l → β d = β' d) → putD β l a = putD β' l a
 | [], _, _ => rfl
 | d :: l, a, h => by
  simp only [putD];rw [zHe (fun d' h' => h d' (List.mem_cons_of_mem _ h')), h d List.mem_cons_self]
theorem putD_perm {β : Tmp → Nat} {l l' : List Tmp} (h : l.Perm l') (a : Act) : putD β l a = putD β l' a := by
 induction h with
 | nil => rfl
 | cons x _ ih => simp only [putD, ih]
 | swap x y l =>
  simp only [putD];by_cases e : x = y
  ·subst e; rfl
  ·exact Act.put_comm _ _ _ (fun d hd hd' => e (by cases hd; cases hd'; rfl))
 | trans _ _ ih1 ih2 => exact ih1.trans ih2
theorem zIv {o : Oper} (hs : ∀ cs b, o.op ≠ .select cs b) {β : Tmp → Nat} : ∀ {l : List Tmp} {a : Act}, (∀ d, d ∈ l → d ∉ o.looksAt ops) → execOp (putD β l a).eval o = execOp a.eval o
 | [], _, _ => rfl
 | d :: l, a, h => by
  simp only [putD];rw [execOp_put (ops := ops) o hs _ (some d) _ (fun d' hd' => by cases hd'; exact h d List.mem_cons_self), zIv hs (fun d' h' => h d' (List.mem_cons_of_mem _ h'))]
theorem zFu {o : Oper} {β : Tmp → Nat} : ∀ {l : List Tmp} {a : Act}, (∀ d, d ∈ l → d ∉ o.looksAt ops) → Region.wanted o (yielded ops (putD β l a).tmps) = Region.wanted o (yielded ops a.tmps)
 | [], _, _ => rfl
 | d :: l, a, h => by
  simp only [putD];rw [wanted_put o _ (some d) _ (fun d' hd' => by cases hd'; exact h d List.mem_cons_self), zFu (fun d' h' => h d' (List.mem_cons_of_mem _ h'))]
def setAll (K : List Lay) (listed : Array Bool) : Array Bool := K.foldr (fun e m => m.setIfInBounds e.at_ true) listed
theorem zHb (K : List Lay) (listed : Array Bool) (i : Nat) : setAll K (listed.setIfInBounds i true) = (setAll K listed).setIfInBounds i true := by
 induction K with
 | nil => rfl
 | cons e K ih =>
  simp only [setAll, List.foldr_cons] at *;rw [ih];by_cases h : i = e.at_
  ·rw [h]
  ·rw [Array.setIfInBounds_comm _ _ h]
theorem setAll_ne {K : List Lay} {listed : Array Bool} {i : Nat} {d : Bool} (h : ∀ e, e ∈ K → e.at_ ≠ i) : (setAll K listed).getD i d = listed.getD i d := by
 induction K with
 | nil => rfl
 | cons e K ih =>
  have h1 := h e List.mem_cons_self;have h2 := ih (fun e' h' => h e' (List.mem_cons_of_mem _ h'));simp only [setAll, List.foldr_cons] at *;rw [getD_set_ne d h1]; exact h2
theorem setAll_app (K1 K2 : List Lay) (e : Lay) (listed : Array Bool) : setAll (K1 ++ e :: K2) listed = setAll (K1 ++ K2) (listed.setIfInBounds e.at_ true) := by
 rw [zHb];induction K1 with
 | nil => rfl
 | cons x K1 ih =>
  simp only [setAll, List.cons_append, List.foldr_cons] at *;rw [ih];by_cases h : e.at_ = x.at_
  ·rw [h]
  ·rw [Array.setIfInBounds_comm _ _ h]
theorem ready_setAll {K : List Lay} {listed : Array Bool} {i : Nat} (h : i ∈ Region.ready md ops listed) (hne : ∀ e, e ∈ K → e.at_ ≠ i) : i ∈ Region.ready md ops (setAll K listed) := by
 induction K with
 | nil => exact h
 | cons e K ih =>
  have h2 := ih (fun e' h' => hne e' (List.mem_cons_of_mem _ h'));simp only [setAll, List.foldr_cons] at *;exact ready_mono h2 (Ne.symm (hne e List.mem_cons_self))
structure Laid (w0 : World) (J : List Lay) (done : List Tmp) (β : Tmp → Nat) (w : World) : Prop where
 below : Below w0.heap.size w0 w
 box : ∀ e, e ∈ J → e.slot ∈ done → w0.heap.size ≤ β e.slot ∧ Box w (β e.slot) e.cells e.type
 apart : ∀ x, x ∈ done → ∀ y, y ∈ done → x ≠ y → β x ≠ β y
theorem Laid.ext {w0 w w' : World} {J : List Lay} {done : List Tmp} {β : Tmp → Nat} (h : Laid w0 J done β w) (hw : Ext w w') : Laid w0 J done β w' :=
 ⟨Ext.trans (a := w0) h.below hw, fun e he hd => ⟨(h.box e he hd).1, (h.box e he hd).2.ee hw⟩, h.apart⟩
def manyB (ops : Array Oper) (n : Nat) (J : List Lay) : Bool :=
 J.all fun e => decide (e.at_ < n) && (List.range n).all fun i => i == e.at_ || match ops[i]? with
  | some o => !(o.looksAt ops).contains e.slot && o.dst != some e.slot
  | none => true
theorem zHg {n : Nat} {J : List Lay} (h : manyB ops n J = true) : ∀ e, e ∈ J → e.at_ < n ∧ ∀ i o, i < n → i ≠ e.at_ → ops[i]? = some o → e.slot ∉ o.looksAt ops ∧ o.dst ≠ some e.slot := by
 intro e he;have h1 := List.all_eq_true.1 h e he;simp only [Bool.and_eq_true, decide_eq_true_eq] at h1;refine ⟨h1.1, fun i o hi hne ho => ?_⟩;have h2 := List.all_eq_true.1 h1.2 i (List.mem_range.2 hi);simp only [ho, Bool.or_eq_true, beq_iff_eq, hne, false_or, Bool.and_eq_true, Bool.not_eq_true', bne_iff_ne] at h2;exact ⟨by simpa using h2.1, h2.2⟩
theorem zGi : ∀ {J : List Lay}, (J.map Lay.slot).Nodup → ∀ {x y : Lay}, x ∈ J → y ∈ J → x.slot = y.slot → x = y
 | [], _, _, _, hx, _, _ => by cases hx
 | e :: J, h, x, y, hx, hy, hxy => by
  obtain ⟨h1, h2⟩ := List.nodup_cons.1 h;rcases List.mem_cons.1 hx with rfl | hx' <;> rcases List.mem_cons.1 hy with rfl | hy'
  ·rfl
  ·exact absurd (List.mem_map.2 ⟨y, hy', hxy.symm⟩) h1
  ·exact absurd (List.mem_map.2 ⟨x, hx', hxy⟩) h1
  ·exact zGi h2 hx' hy' hxy
theorem at_inj : ∀ {J : List Lay}, (J.map Lay.at_).Nodup → ∀ {x y : Lay}, x ∈ J → y ∈ J → x.at_ = y.at_ → x = y
 | [], _, _, _, hx, _, _ => by cases hx
 | e :: J, h, x, y, hx, hy, hxy => by
  obtain ⟨h1, h2⟩ := List.nodup_cons.1 h;rcases List.mem_cons.1 hx with rfl | hx' <;> rcases List.mem_cons.1 hy with rfl | hy'
  ·rfl
  ·exact absurd (List.mem_map.2 ⟨y, hy', hxy.symm⟩) h1
  ·exact absurd (List.mem_map.2 ⟨x, hx', hxy⟩) h1
  ·exact at_inj h2 hx' hy' hxy
theorem rAny_with_many {n g : Nat} {J : List Lay} {Q : Exit → Act → World → Prop} {Lq : Act → Prop} {l : List Oper} {w0 : World} (hsel : Region.noSelect ops = true)
    (hg : l.length = g) (hl : ∀ k, l[k]? = ops[n + k]?)
    (hJ : ∀ e, e ∈ J → ∃ oj, ops[e.at_]? = some oj ∧ oj.dst = some e.slot ∧ oj.after = #[] ∧ oj.guard = none ∧ ∀ (ρ : Operand → Value) (w : World), (execOp ρ oj).run P w = .ok (.value (.pointer (some ⟨w.heap.size, 0, none⟩))) (w.alloc (.cells e.cells.toArray e.type)))
    (hJs : (J.map Lay.slot).Nodup) (hJa : ∀ e, e ∈ J → ∀ e', e' ∈ J → e.at_ = e'.at_ → e = e') (hB : manyB ops n J = true)
    (hs : Region.sinkB md ops n = true) (hc : Region.chainB md ops n = true) (hn : n < ops.size)
    (hC : ∀ w', Below w0.heap.size w0 w' → C w')
    (hQ : ∀ a w β, Laid w0 J (J.map Lay.slot) β w → Lq a → wpList P ops Q l (putD β (J.map Lay.slot) a) w) :
    ∀ (m f : Nat) (K : List Lay) (done : List Tmp) (β : Tmp → Nat) (listed : Array Bool) (a : Act) (w : World), m = f + K.length → (∀ e, e ∈ K → e ∈ J) → (done ++ K.map Lay.slot).Perm (J.map Lay.slot) →
     (∀ e, e ∈ K → listed.getD e.at_ true = false) → (∀ e, e ∈ J → e.slot ∈ done → listed.getD e.at_ true = true) → (K.map Lay.slot).Nodup →
     HeadInv md ops n listed → Laid w0 J done β w →
     rAny P md ops C n (fun listed' a' => Region.seqB md ops g n listed' = true ∧ Lq a') f (setAll K listed) a → wpAny P md ops Q (m + g) listed (putD β done a) w := by
 have spec := zHg hB;intro m;induction m with
 | zero =>
  intro f K done β listed a w hm hKJ hperm hKl hdl hKn inv hw h;have hf : f = 0 := by omega
  have hK : K = [] := List.length_eq_zero_iff.1 (by omega);subst hf hK;subst hg;rw [Nat.zero_add];simp only [List.map_nil, List.append_nil] at hperm;refine wpAny_of_seq l n listed _ w hl h.1 ?_;rw [putD_perm hperm];refine hQ a w β ⟨hw.below, fun e he hd => hw.box e he (hperm.mem_iff.2 hd), fun x hx y hy => hw.apart x (hperm.mem_iff.2 hx) y (hperm.mem_iff.2 hy)⟩ h.2
 | succ m ih =>
  intro f K done β listed a w hm hKJ hperm hKl hdl hKn inv hw h;rw [show m + 1 + g = (m + g) + 1 by omega];have hnd : (done ++ K.map Lay.slot).Nodup := hperm.nodup_iff.2 hJs
  -- who may come up now
  have hne : Region.ready md ops listed ≠ [] := by
   cases K with
   | nil =>
    cases f with
    | zero => simp at hm
    | succ f => exact h.1
   | cons e K' =>
    obtain ⟨oj, hoj, _, haft, _⟩ := hJ e (hKJ e List.mem_cons_self);intro h0;have : e.at_ ∈ Region.ready md ops listed := mem_ready.2 ⟨hKl e List.mem_cons_self, oj, hoj, fun x hx => (by rw [haft] at hx; simp at hx)⟩;rw [h0] at this; cases this
  refine ⟨fun h0 => absurd h0 hne, fun i hi => ?_⟩;have hiun := (mem_ready.1 hi).1;by_cases hiK : ∃ e, e ∈ K ∧ e.at_ = i
  ·-- a block is laid
   obtain ⟨e, he, rfl⟩ := hiK;obtain ⟨K1, K2, rfl⟩ := List.append_of_mem he;obtain ⟨oj, hoj, hd, haft, hgd, hrun⟩ := hJ e (hKJ e he);have hlt := (spec e (hKJ e he)).1;unfold wpOp;simp only [hoj];have hwant : Region.wanted oj (yielded ops (putD β done a).tmps) = true := by simp [Region.wanted, hgd]
   rw [if_pos hwant];refine .inl ?_;unfold Oper.wp;rw [hrun, Oper.upon_value, hd];have hnotdone : e.slot ∉ done := fun hin => by
    have := (List.nodup_append.1 hnd).2.2 e.slot hin e.slot (by simp);exact this rfl
   have e1 : ((putD β done a).put (some e.slot) (.pointer (some ⟨w.heap.size, 0, none⟩))) = putD (fun x => if x = e.slot then w.heap.size else β x) (e.slot :: done) a := by
    simp only [putD, if_pos];rw [zHe (β := β) (β' := fun x => if x = e.slot then w.heap.size else β x) (fun d hdn => (if_neg (fun hh : d = e.slot => hnotdone (hh ▸ hdn))).symm)]
   rw [e1];rw [setAll_app] at h;refine ih f (K1 ++ K2) (e.slot :: done) _ _ a _ (by simp at hm ⊢; omega) (fun x hx => hKJ x (by simp at hx ⊢; rcases hx with hx | hx <;> simp [hx])) ?_ ?_ ?_ ?_ (inv.set hi hlt) ?_ h
   ·refine List.Perm.trans ?_ hperm;simp only [List.map_append, List.map_cons, List.cons_append];rw [← List.append_assoc, ← List.append_assoc];exact List.perm_middle.symm
   ·intro x hx;have hxK : x ∈ K1 ++ e :: K2 := by simp at hx ⊢; rcases hx with hx | hx <;> simp [hx]
    have hxe : x.at_ ≠ e.at_ := fun hh => by
     have hxx := hJa x (hKJ x hxK) e (hKJ e he) hh;subst hxx;simp only [List.map_append, List.map_cons] at hKn;have h3 := (List.nodup_append.1 hKn);rcases List.mem_append.1 hx with hx | hx
     ·exact h3.2.2 x.slot (List.mem_map.2 ⟨x, hx, rfl⟩) x.slot List.mem_cons_self rfl
     ·exact (List.nodup_cons.1 h3.2.1).1 (List.mem_map.2 ⟨x, hx, rfl⟩)
    rw [getD_set_ne true (Ne.symm hxe)]; exact hKl x hxK
   ·intro x hx hxd;rcases List.mem_cons.1 hxd with hxs | hxs
    ·have hxx : x = e := by
       have hp : (J.map Lay.slot).Nodup := hJs;exact zGi hp hx (hKJ e he) hxs
     subst hxx;have : x.at_ < listed.size := by rw [inv.size]; omega
     simp [this]
    ·have := hdl x hx hxs;by_cases hxe : x.at_ = e.at_
     ·rw [hxe] at this; rw [this] at hiun; cases hiun
     ·rw [getD_set_ne true (Ne.symm hxe)]; exact this
   ·refine hKn.sublist ?_;simp only [List.map_append, List.map_cons];exact List.Sublist.append_left (List.sublist_cons_self _ _) _
   ·refine ⟨hw.below.alloc hw.below.size _, fun x hx hxd => ?_, fun x hx y hy hxy => ?_⟩
    ·rcases List.mem_cons.1 hxd with hxs | hxs
     ·have hxx : x = e := zGi hJs hx (hKJ e he) hxs;subst hxx;simp only [if_pos];exact ⟨hw.below.size, Box.new rfl⟩
     ·have hxe : x.slot ≠ e.slot := fun hh => hnotdone (hh ▸ hxs);simp only [if_neg hxe];exact ⟨(hw.box x hx hxs).1, (hw.box x hx hxs).2.old _⟩
    ·have lt : ∀ z, z ∈ done → β z < w.heap.size := fun z hz => by
       have hzJ : z ∈ J.map Lay.slot := hperm.mem_iff.1 (List.mem_append_left _ hz);obtain ⟨ez, hez, rfl⟩ := List.mem_map.1 hzJ;exact (hw.box ez hez hz).2.lt
     rcases List.mem_cons.1 hx with hx | hx <;> rcases List.mem_cons.1 hy with hy | hy
     ·exact absurd (hx.trans hy.symm) hxy
     ·subst hx; simp only [if_pos, if_neg (fun hh => hxy hh.symm : ¬ y = e.slot)];have := lt y hy; omega
     ·subst hy; simp only [if_pos, if_neg hxy];have := lt x hx; omega
     ·simp only [if_neg (fun hh : x = e.slot => hnotdone (hh ▸ hx)), if_neg (fun hh : y = e.slot => hnotdone (hh ▸ hy))];exact hw.apart x hx y hy hxy
  ·-- another one
   have hiK' : ∀ e, e ∈ K → e.at_ ≠ i := fun e he hh => hiK ⟨e, he, hh⟩;have hir := ready_setAll (K := K) hi hiK';cases f with
   | zero =>
    have h1 := seqB_ready h.1 i hir;cases K with
    | nil => simp at hm
    | cons e K' =>
     exact absurd hi (tail_waits hs hc hn inv _ e.at_ rfl (spec e (hKJ e List.mem_cons_self)).1 (hKl e List.mem_cons_self) i h1)
   | succ f =>
    obtain ⟨hin, o, v, ho, hy, hK⟩ := h.2 i hir;have hnoJ : ∀ e, e ∈ J → i ≠ e.at_ := fun e he hh => by
     rcases List.mem_append.1 (hperm.mem_iff.2 (List.mem_map.2 ⟨e, he, rfl⟩)) with hd | hd
     ·have := hdl e he hd; rw [← hh] at this; rw [this] at hiun; cases hiun
     ·obtain ⟨e', he', hs'⟩ := List.mem_map.1 hd;have := zGi hJs (hKJ e' he') he hs';subst this;exact hiK ⟨e', he', hh.symm⟩
    have hap : ∀ d, d ∈ done → d ∉ o.looksAt ops ∧ o.dst ≠ some d := fun d hd => by
     have hdJ : d ∈ J.map Lay.slot := hperm.mem_iff.1 (List.mem_append_left _ hd);obtain ⟨e, he, rfl⟩ := List.mem_map.1 hdJ;exact (spec e he).2 i o hin (hnoJ e he) ho
    have hy' : rYields P ops C o v (putD β done a) := hy.same (zIv (fun cs b => Region.noSelect_spec hsel i o cs b ho) (fun d hd => (hap d hd).1)) (zFu (fun d hd => (hap d hd).1));refine zAw ho (hC w hw.below) hy' fun w' hw' => ?_;rw [← zJk (fun d hd => (hap d hd).2)];refine ih f K done β _ _ w' (by omega) hKJ hperm (fun e he => by rw [getD_set_ne true (Ne.symm (hiK' e he))]; exact hKl e he) (fun e he hd => by rw [getD_set_ne true (hnoJ e he)]; exact hdl e he hd) hKn (inv.set hi hin) (hw.ext hw') ?_;rw [zHb];exact hK
def dropIdx (js : List Nat) : Nat → List Oper → List Oper
 | _, [] => []
 | i, o :: r => if js.contains i = true then dropIdx js (i + 1) r else o :: dropIdx js (i + 1) r
theorem dropIdx_map (js : List Nat) (l : List Oper) : ∀ (n i : Nat), n = l.length - i → ((List.range' i n).filter fun k => !js.contains k).map (fun k => l.toArray[k]?) = (dropIdx js i (l.drop i)).map some := by
 intro n;induction n with
 | zero => intro i h; rw [List.drop_eq_nil_of_le (by omega)]; rfl
 | succ n ih =>
  intro i h;have hi : i < l.length := by omega
  rw [List.drop_eq_getElem_cons hi, List.range'_succ];simp only [dropIdx, List.filter_cons];have := ih (i + 1) (by omega);cases hc : js.contains i with
  | true => simp only [Bool.not_true, Bool.false_eq_true, if_false, if_true]; exact this
  | false => simp only [Bool.not_false, if_true, Bool.false_eq_true, if_false, List.map_cons, this]; simp [hi]
theorem dropIdx_take (js : List Nat) (l : List Oper) (n : Nat) (hn : n ≤ l.length) : ((List.range n).filter fun k => !js.contains k).map (fun k => l.toArray[k]?) = (dropIdx js 0 (l.take n)).map some := by
 have h := dropIdx_map js (l.take n) n 0 (by simp; omega);rw [List.drop_zero] at h;rw [← h, List.range_eq_range'];refine List.map_congr_left fun k hk => ?_;have := (List.mem_filter.1 hk).1;simp at this;simp [this]
theorem zAq {id : Nat} {Q : Exit → Act → World → Prop} {a : Act} {w : World} {l : List Oper} (n : Nat) (J : List Lay)
    (hJ : ∀ e, e ∈ J → ∃ oj, l.toArray[e.at_]? = some oj ∧ oj.dst = some e.slot ∧ oj.after = #[] ∧ oj.guard = none ∧ ∀ (ρ : Operand → Value) (w : World), (execOp ρ oj).run P w = .ok (.value (.pointer (some ⟨w.heap.size, 0, none⟩))) (w.alloc (.cells e.cells.toArray e.type)))
    (hm : P.follows .mixedOrders = true) (hJs : (J.map Lay.slot).Nodup) (hJa : (J.map Lay.at_).Nodup)
    (hB : (Region.noSelect l.toArray && decide (n < l.toArray.size) && Region.sinkB .any l.toArray n && Region.chainB .any l.toArray n && manyB l.toArray n J &&
     orderB .any l.toArray n (l.toArray.size - n) ((List.range n).filter fun i => !(J.map Lay.at_).contains i) (setAll J (Array.replicate l.toArray.size false))) = true)
    (hcount : ((List.range n).filter fun i => !(J.map Lay.at_).contains i).length + J.length = n)
    (hC : ∀ w', Below w.heap.size w w' → C w')
    (h : rWalk P l.toArray C (fun a' => ∀ w' β, Laid w J (J.map Lay.slot) β w' → wpList P l.toArray Q (l.drop n) (putD β (J.map Lay.slot) a') w') (dropIdx (J.map Lay.at_) 0 (l.take n)) a) :
    (Code.region id l.toArray true).wp P Q a w := by
 simp only [Bool.and_eq_true, decide_eq_true_eq] at hB;obtain ⟨⟨⟨⟨⟨hsel, hn⟩, hs⟩, hc⟩, hmB⟩, ho⟩ := hB;have spec := zHg hmB;have hJa' : ∀ e, e ∈ J → ∀ e', e' ∈ J → e.at_ = e'.at_ → e = e' := fun e he e' he' heq => at_inj hJa he he' heq
 -- the laying operations may come up in any order from the start
 have inv1 : ∀ listed, HeadInv .any l.toArray n listed → TailWaits .any l.toArray n listed := fun listed inv i hi hun => tail_waits hs hc hn inv _ i rfl hi hun;have invJ : ∀ K : List Lay, (∀ e, e ∈ K → e ∈ J) → (K.map Lay.at_).Nodup → HeadInv .any l.toArray n (setAll K (Array.replicate l.toArray.size false)) := by
  intro K;induction K with
  | nil => intro _ _; exact headInv0
  | cons e K ih =>
   intro hK hnd;have hnd' := List.nodup_cons.1 hnd;have := ih (fun x hx => hK x (List.mem_cons_of_mem _ hx)) hnd'.2;obtain ⟨oj, hoj, _, haft, _⟩ := hJ e (hK e List.mem_cons_self);have hlt := (spec e (hK e List.mem_cons_self)).1;refine this.set (mem_ready.2 ⟨?_, oj, hoj, fun x hx => (by rw [haft] at hx; simp at hx)⟩) hlt;rw [setAll_ne (fun x hx hh => hnd'.1 (List.mem_map.2 ⟨x, hx, hh⟩))];exact getD_in (by simp at hn ⊢; omega) (getD_replicate_false _ _)
 have H := zBv (md := .any) (g := l.toArray.size - n) hsel (HeadInv .any l.toArray n) (fun listed j inv hj hjn => inv.set hj hjn) inv1 _ _ _ a (dropIdx_take (J.map Lay.at_) l n (by simp at hn; omega)) (invJ J (fun _ h => h) hJa) ho h;refine wp_region_any hm ?_;have := rAny_with_many (md := .any) (Q := Q) (l := l.drop n) (w0 := w) (g := l.toArray.size - n) hsel (by simp) (fun j => by simp [List.getElem?_drop]) hJ hJs hJa' hmB hs hc hn hC
  (fun a' w' β hL hl => hl w' β hL) _ _ J [] (fun _ => 0) (Array.replicate l.toArray.size false) a { w with drawn := w.drawn + 1 } rfl (fun _ h => h) (by simp)
  (fun e he => getD_in (by simp; have := (spec e he).1; simp at hn; omega) (getD_replicate_false _ _)) (fun e _ hd => (by cases hd)) hJs headInv0
  ⟨⟨rfl, rfl, rfl, Nat.le_refl _, fun _ _ => rfl⟩, (fun e _ hd => (by cases hd)), (fun x hx => (by cases hx))⟩ H
 rw [hcount, show n + (l.toArray.size - n) = l.toArray.size by omega] at this;exact this
end
section
variable {P : Program} {ops : Array Oper} {md : Region.Mode} {C : World → Prop}
def backB (md : Region.Mode) (ops : Array Oper) (n : Nat) : Bool :=
 (List.range n).all fun i => match ops[i]? with
  | some o => o.after.all fun e => !Region.binds md e || decide (e.on < i)
  | none => false
theorem backB_spec {n i : Nat} (h : backB md ops n = true) (hi : i < n) : ∃ o, ops[i]? = some o ∧ ∀ e ∈ o.after, Region.binds md e = true → e.on < i := by
 have h1 := List.all_eq_true.1 h i (List.mem_range.2 hi);cases ho : ops[i]? with
 | none => rw [ho] at h1; cases h1
 | some o =>
  rw [ho] at h1;refine ⟨o, rfl, fun e he hb => ?_⟩;have h2 := Array.all_eq_true_iff_forall_mem.1 h1 e he
  simpa [hb] using h2
theorem zHa {n : Nat} {listed : Array Bool} (h : backB md ops n = true) (hsz : listed.size = ops.size) (hn : n ≤ ops.size) :
    ∀ (i : Nat), i < n → listed.getD i true = false → ∃ k, k ≤ i ∧ k ∈ Region.ready md ops listed := by
 intro i;induction i using Nat.strongRecOn with
 | _ i ih =>
  intro hi hun;obtain ⟨o, ho, hall⟩ := backB_spec h hi;by_cases hr : ∀ e ∈ o.after, Region.binds md e = true → listed.getD e.on false = true
  ·exact ⟨i, Nat.le_refl _, mem_ready.2 ⟨hun, o, ho, hr⟩⟩
  ·have : ∃ e ∈ o.after, Region.binds md e = true ∧ listed.getD e.on false = false := by
     apply Classical.byContradiction;intro hno;refine hr fun e he hb => ?_;cases hv : listed.getD e.on false with
     | true => rfl
     | false => exact absurd ⟨e, he, hb, hv⟩ hno
   obtain ⟨e, he, hb, hv⟩ := this;have hlt := hall e he hb;obtain ⟨k, hk, hkr⟩ := ih e.on hlt (by omega) (getD_in (by omega) hv);exact ⟨k, by omega, hkr⟩
theorem zId {n t : Nat} {u : Value} {L : Array Bool → Act → Prop} (hL : ∀ l a, L l a → a.eval (.tmp t) = u) :
    ∀ (f : Nat) (listed : Array Bool) (a : Act), (∀ i o, i < n → ops[i]? = some o → listed.getD i true = false → o.dst ≠ some t) → rAny P md ops C n L f listed a → a.eval (.tmp t) = u
 | 0, listed, a, _, h => hL _ _ h
 | f + 1, listed, a, hw, h => by
  obtain ⟨hne, hall⟩ := h;obtain ⟨i, hi⟩ := List.exists_mem_of_ne_nil _ hne;obtain ⟨hin, o, v, ho, _, hK⟩ := hall i hi;have h1 := zId hL f _ _ (fun k ok hk hok hun => by
   by_cases hik : i = k
   ·subst hik;have : ok = o := Option.some.inj (hok.symm.trans ho);subst this;exact hw i ok hin ho (mem_ready.1 hi).1
   ·rw [getD_set_ne true hik] at hun; exact hw k ok hk hok hun) hK
  rw [Act.eval_put (fun d hd hx => by cases hx; exact hw i o hin ho (mem_ready.1 hi).1 hd)] at h1;exact h1
def writersB (md : Region.Mode) (ops : Array Oper) (n s t : Nat) : Bool :=
 (List.range n).all fun i => match ops[i]? with
  | some o => o.dst != some t || Region.waitsFor md ops s i
  | none => true
structure Late (P : Program) (md : Region.Mode) (ops : Array Oper) (n j s : Nat) (d t : Tmp) (T : TypeId) (cs us : Array Value) (u : Value) (oj os : Oper) (eff : Nat → World → World) : Prop where
 hsel : Region.noSelect ops = true
 hn : n < ops.size
 hjn : j < n
 hsn : s < n
 hjs : j ≠ s
 hsink : Region.sinkB md ops n = true
 hchain : Region.chainB md ops n = true
 hback : backB md ops n = true
 hoj : ops[j]? = some oj
 hos : ops[s]? = some os
 hd : oj.dst = some d
 hafter : oj.after = #[]
 hguard : oj.guard = none
 hsd : os.dst = none
 hsg : os.guard = none
 hsj : Region.waitsFor md ops s j = true
 hdt : d ≠ t
 hwr : writersB md ops n s t = true
 hrun : ∀ (ρ : Operand → Value) (w : World), (execOp ρ oj).run P w = .ok (.value (.pointer (some ⟨w.heap.size, 0, none⟩))) (w.alloc (.cells cs T))
 hst : ∀ (ρ : Operand → Value) (w : World) (b : Nat), ρ (.tmp d) = .pointer (some ⟨b, 0, none⟩) → ρ (.tmp t) = u → w.heap[b]? = some (.cells cs T) → (execOp ρ os).run P w = .ok .skip (eff b w)
 heff : ∀ (w : World) (b : Nat), w.heap[b]? = some (.cells cs T) → (eff b w).heap[b]? = some (.cells us T) ∧ (∀ B, B ≤ b → Below B w (eff b w))
def quietApartB (ops : Array Oper) (n j s : Nat) (d : Tmp) : Bool :=
 (List.range n).all fun i => i == j || i == s || match ops[i]? with
  | some o => !(o.looksAt ops).contains d && o.dst != some d
  | none => true
theorem zCt {n j s d : Nat} (h : quietApartB ops n j s d = true) : ∀ i o, i < n → ¬ (i = j ∨ i = s) → ops[i]? = some o → (∀ d', some d = some d' → d' ∉ o.looksAt ops) ∧ (∀ d', some d = some d' → o.dst ≠ some d') := by
 intro i o hi hj ho;have h1 := List.all_eq_true.1 h i (List.mem_range.2 hi);have hj1 : i ≠ j := fun e => hj (.inl e);have hj2 : i ≠ s := fun e => hj (.inr e);simp only [ho, Bool.or_eq_true, beq_iff_eq, hj1, hj2, false_or, Bool.and_eq_true, Bool.not_eq_true', bne_iff_ne] at h1;refine ⟨fun d' hd => ?_, fun d' hd => ?_⟩
 ·cases hd; simpa using h1.1
 ·cases hd; exact h1.2
variable {n j s g : Nat} {d t : Tmp} {T : TypeId} {cs us : Array Value} {u : Value} {oj os : Oper} {eff : Nat → World → World} {Q : Exit → Act → World → Prop} {Lq : Act → Prop} {l : List Oper} {w0 : World}
theorem late_tail (K : Late P md ops n j s d t T cs us u oj os eff) (hqa : quietApartB ops n j s d = true) (hg : l.length = g) (hl : ∀ k, l[k]? = ops[n + k]?) (hC : ∀ w', Below w0.heap.size w0 w' → C w')
    (hQ : ∀ a w b, Below w0.heap.size w0 w → w0.heap.size ≤ b → b < w.heap.size → w.heap[b]? = some (.cells us T) → Lq a → wpList P ops Q l (a.put (some d) (.pointer (some ⟨b, 0, none⟩))) w)
    (f : Nat) (listed : Array Bool) (a : Act) (w : World) (b : Nat) (hw : Below w0.heap.size w0 w) (hb : w0.heap.size ≤ b) (hbl : b < w.heap.size) (hbx : w.heap[b]? = some (.cells us T))
    (hlj : listed.getD j true = true) (hls : listed.getD s true = true)
    (h : rAny P md ops C n (fun listed' a' => Region.seqB md ops g n listed' = true ∧ Lq a') f listed a) : wpAny P md ops Q (f + g) listed (a.put (some d) (.pointer (some ⟨b, 0, none⟩))) w :=
 zBa (md := md) (D := fun w' => Below w0.heap.size w0 w' ∧ b < w'.heap.size ∧ w'.heap[b]? = some (.cells us T)) K.hsel hg hl (fun w' h => hC w' h.1)
  (fun x y hx hy => ⟨Below.trans hx.1 (Below.mono hy hx.1.size), Nat.lt_of_lt_of_le hx.2.1 hy.size, (hy.block _ hx.2.1).trans hx.2.2⟩) (fun k => k = j ∨ k = s) (zCt hqa)
  (fun a' w' hw' hl' => hQ a' w' b hw'.1 hb hw'.2.1 hw'.2.2 hl') f listed a w ⟨hw, hbl, hbx⟩ (fun k hk => by rcases hk with rfl | rfl; exact hlj; exact hls) h
theorem eval_put_same (a : Act) (d : Tmp) (v : Value) (h : d < a.tmps.size) : (a.put (some d) v).eval (.tmp d) = v := by
 simp [Act.eval, Act.put, h]
theorem zJj (a : Act) (x : Option Tmp) (v : Value) : (a.put x v).tmps.size = a.tmps.size := by cases x <;> simp [Act.put]
theorem zFv {o : Oper} (h : o.guard = none) (f : Nat → Option Bool) : Region.wanted o f = true := by simp [Region.wanted, h]
theorem late_one (K : Late P md ops n j s d t T cs us u oj os eff) (hqa : quietApartB ops n j s d = true) (hg : l.length = g) (hl : ∀ k, l[k]? = ops[n + k]?) (hC : ∀ w', Below w0.heap.size w0 w' → C w')
    (hLu : ∀ a, Lq a → a.eval (.tmp t) = u)
    (hQ : ∀ a w b, Below w0.heap.size w0 w → w0.heap.size ≤ b → b < w.heap.size → w.heap[b]? = some (.cells us T) → Lq a → wpList P ops Q l (a.put (some d) (.pointer (some ⟨b, 0, none⟩))) w) :
    ∀ (f : Nat) (listed : Array Bool) (a : Act) (w : World) (b : Nat), d < a.tmps.size → Below w0.heap.size w0 w → w0.heap.size ≤ b → b < w.heap.size → w.heap[b]? = some (.cells cs T) →
     listed.getD j true = true → listed.getD s true = false → HeadInv md ops n listed →
     rAny P md ops C n (fun listed' a' => Region.seqB md ops g n listed' = true ∧ Lq a') f (listed.setIfInBounds s true) a → wpAny P md ops Q (f + g + 1) listed (a.put (some d) (.pointer (some ⟨b, 0, none⟩))) w := by
 have hssz : s < ops.size := Nat.lt_trans K.hsn K.hn
 -- the store, whenever it comes
 have store : ∀ (f : Nat) (listed : Array Bool) (a : Act) (w : World) (b : Nat), d < a.tmps.size → Below w0.heap.size w0 w → w0.heap.size ≤ b → b < w.heap.size → w.heap[b]? = some (.cells cs T) →
     listed.getD j true = true → listed.getD s true = false → HeadInv md ops n listed → s ∈ Region.ready md ops listed →
     rAny P md ops C n (fun listed' a' => Region.seqB md ops g n listed' = true ∧ Lq a') f (listed.setIfInBounds s true) a →
     wpOp P ops Q s (wpAny P md ops Q (f + g) (listed.setIfInBounds s true)) (a.put (some d) (.pointer (some ⟨b, 0, none⟩))) w := by
  intro f listed a w b hd hw hb hbl hbx hlj hls inv hsr h;have hev : a.eval (.tmp t) = u := by
   refine zId (fun l' a' hL => hLu a' hL.2) f _ a (fun i o hin ho hun hdst => ?_) h;have h1 := List.all_eq_true.1 K.hwr i (List.mem_range.2 hin);simp only [ho, hdst, bne_self_eq_false, Bool.false_or] at h1;obtain ⟨o', ho', e, he, hbi, hon⟩ := Region.waitsFor_spec h1;obtain ⟨_, o'', ho'', hall⟩ := mem_ready.1 hsr;have : o' = o'' := Option.some.inj (ho'.symm.trans ho'');subst this;have h2 := hall e he hbi;rw [hon] at h2;by_cases his : s = i
   ·subst his;have : o = os := Option.some.inj (ho.symm.trans K.hos);subst this;rw [K.hsd] at hdst; cases hdst
   ·rw [getD_set_ne true his] at hun;rw [getD_both hun] at h2; cases h2
  unfold wpOp;simp only [K.hos];rw [if_pos (zFv K.hsg _)];refine .inl ?_;unfold Oper.wp;have e2 : (a.put (some d) (.pointer (some ⟨b, 0, none⟩))).eval (.tmp t) = u := by
   rw [Act.eval_put (fun d' hd' hx => by cases hd'; cases hx; exact K.hdt rfl)]; exact hev
  rw [K.hst _ w b (eval_put_same a d _ hd) e2 hbx, Oper.upon_skip, K.hsd];obtain ⟨hu1, hu2⟩ := K.heff w b hbx;have hbe := hu2 w0.heap.size hb;exact late_tail K hqa hg hl hC hQ f _ a _ b (hw.trans hbe) hb (Nat.lt_of_lt_of_le hbl hbe.size) hu1 (by
   by_cases hsj : s = j
   ·exact absurd hsj.symm K.hjs
   ·rw [getD_set_ne true hsj]; exact hlj) (by simp [inv.size, hssz]) h
 have head : ∀ (listed : Array Bool), HeadInv md ops n listed → listed.getD s true = false → ∀ i, i ∈ Region.ready md ops listed → i < n := fun listed inv hls i hi => by
  rcases Nat.lt_or_ge i n with h | h
  ·exact h
  ·exact absurd hi (tail_waits K.hsink K.hchain K.hn inv _ s rfl K.hsn hls i h)
 intro f;induction f with
 | zero =>
  intro listed a w b hd hw hb hbl hbx hlj hls inv h;obtain ⟨k, hk, hkr⟩ := zHa K.hback inv.size (Nat.le_of_lt K.hn) s K.hsn hls;refine ⟨fun h0 => (by rw [h0] at hkr; cases hkr), fun i hi => ?_⟩;by_cases his : i = s
  ·subst his; exact store 0 listed a w b hd hw hb hbl hbx hlj hls inv hi h
  ·have h1 := seqB_ready h.1 i (ready_mono hi his);have := head listed inv hls i hi;omega
 | succ f ih =>
  intro listed a w b hd hw hb hbl hbx hlj hls inv h;obtain ⟨k, hk, hkr⟩ := zHa K.hback inv.size (Nat.le_of_lt K.hn) s K.hsn hls;refine ⟨fun h0 => (by rw [h0] at hkr; cases hkr), fun i hi => ?_⟩;by_cases his : i = s
  ·subst his; exact store (f + 1) listed a w b hd hw hb hbl hbx hlj hls inv hi h
  ·obtain ⟨hin, o, v, ho, hy, hK⟩ := h.2 i (ready_mono hi his);have hij : i ≠ j := fun e => by subst e; rw [(mem_ready.1 hi).1] at hlj; cases hlj
   obtain ⟨p1, p2⟩ := zCt hqa i o hin (by rintro (e | e); exact hij e; exact his e) ho;have hy' : rYields P ops C o v (a.put (some d) (.pointer (some ⟨b, 0, none⟩))) := hy.same (execOp_put o (fun c x => Region.noSelect_spec K.hsel i o c x ho) a _ _ p1) (wanted_put o a _ _ p1);refine zAw ho (hC w hw) hy' fun w' hw' => ?_;rw [Act.put_comm a _ v p2, show f + 1 + g = f + g + 1 by omega];refine ih _ _ w' b (by rw [zJj]; exact hd) (Ext.trans hw hw') hb (Nat.lt_of_lt_of_le hbl hw'.size) ((hw'.block _ hbl).trans hbx) (by rw [getD_set_ne true hij]; exact hlj) (by rw [getD_set_ne true his]; exact hls) (inv.set hi hin) ?_;rw [Array.setIfInBounds_comm _ _ his];exact hK
theorem late_zero (K : Late P md ops n j s d t T cs us u oj os eff) (hqa : quietApartB ops n j s d = true) (hg : l.length = g) (hl : ∀ k, l[k]? = ops[n + k]?) (hC : ∀ w', Below w0.heap.size w0 w' → C w')
    (hLu : ∀ a, Lq a → a.eval (.tmp t) = u)
    (hQ : ∀ a w b, Below w0.heap.size w0 w → w0.heap.size ≤ b → b < w.heap.size → w.heap[b]? = some (.cells us T) → Lq a → wpList P ops Q l (a.put (some d) (.pointer (some ⟨b, 0, none⟩))) w) :
    ∀ (f : Nat) (listed : Array Bool) (a : Act) (w : World), d < a.tmps.size → Below w0.heap.size w0 w → listed.getD j true = false → listed.getD s true = false → HeadInv md ops n listed →
     rAny P md ops C n (fun listed' a' => Region.seqB md ops g n listed' = true ∧ Lq a') f ((listed.setIfInBounds j true).setIfInBounds s true) a → wpAny P md ops Q (f + g + 1 + 1) listed a w := by
 have hjsz : j < ops.size := Nat.lt_trans K.hjn K.hn
 have lay : ∀ (f : Nat) (listed : Array Bool) (a : Act) (w : World), d < a.tmps.size → Below w0.heap.size w0 w → listed.getD j true = false → listed.getD s true = false → HeadInv md ops n listed → j ∈ Region.ready md ops listed →
     rAny P md ops C n (fun listed' a' => Region.seqB md ops g n listed' = true ∧ Lq a') f ((listed.setIfInBounds j true).setIfInBounds s true) a →
     wpOp P ops Q j (wpAny P md ops Q (f + g + 1) (listed.setIfInBounds j true)) a w := by
  intro f listed a w hd hw hlj hls inv hjr h;unfold wpOp;simp only [K.hoj];rw [if_pos (zFv K.hguard _)];refine .inl ?_;unfold Oper.wp;rw [K.hrun, Oper.upon_value, K.hd];exact late_one K hqa hg hl hC hLu hQ f _ a _ w.heap.size hd (hw.alloc hw.size _) hw.size (by simp) (heap_new _ _) (by simp [inv.size, hjsz]) (by rw [getD_set_ne true K.hjs]; exact hls) (inv.set hjr K.hjn) h
 have notS : ∀ (listed : Array Bool), listed.getD j true = false → s ∉ Region.ready md ops listed := fun listed hlj hsr => by
  obtain ⟨o', ho', e, he, hbi, hon⟩ := Region.waitsFor_spec K.hsj;obtain ⟨_, o'', ho'', hall⟩ := mem_ready.1 hsr;have : o' = o'' := Option.some.inj (ho'.symm.trans ho'');subst this;have h2 := hall e he hbi;rw [hon, getD_both hlj] at h2; cases h2
 intro f;induction f with
 | zero =>
  intro listed a w hd hw hlj hls inv h;have hjr : j ∈ Region.ready md ops listed := mem_ready.2 ⟨hlj, oj, K.hoj, fun e he => (by rw [K.hafter] at he; simp at he)⟩;refine ⟨fun h0 => (by rw [h0] at hjr; cases hjr), fun i hi => ?_⟩;by_cases hij : i = j
  ·subst hij; exact lay 0 listed a w hd hw hlj hls inv hi h
  ·have his : i ≠ s := fun e => by subst e; exact notS listed hlj hi
   have h1 := seqB_ready h.1 i (ready_mono (ready_mono hi hij) his);exact absurd hi (tail_waits K.hsink K.hchain K.hn inv _ j rfl K.hjn hlj i h1)
 | succ f ih =>
  intro listed a w hd hw hlj hls inv h;have hjr : j ∈ Region.ready md ops listed := mem_ready.2 ⟨hlj, oj, K.hoj, fun e he => (by rw [K.hafter] at he; simp at he)⟩;refine ⟨fun h0 => (by rw [h0] at hjr; cases hjr), fun i hi => ?_⟩;by_cases hij : i = j
  ·subst hij; exact lay (f + 1) listed a w hd hw hlj hls inv hi h
  ·have his : i ≠ s := fun e => by subst e; exact notS listed hlj hi
   obtain ⟨hin, o, v, ho, hy, hK⟩ := h.2 i (ready_mono (ready_mono hi hij) his);refine zAw ho (hC w hw) hy fun w' hw' => ?_;rw [show f + 1 + g + 1 = f + g + 1 + 1 by omega];refine ih _ _ w' (by rw [zJj]; exact hd) (Ext.trans hw hw') (by rw [getD_set_ne true hij]; exact hlj) (by rw [getD_set_ne true his]; exact hls) (inv.set hi hin) ?_;rw [Array.setIfInBounds_comm _ _ hij, Array.setIfInBounds_comm _ _ his];exact hK
def phaseB (md : Region.Mode) (ops : Array Oper) (n : Nat) : Bool := (List.range n).all fun i => Region.waitsFor md ops n i
theorem phase_waits {listed : Array Bool} (hp : phaseB md ops n = true) (hc : Region.chainB md ops n = true) (ht : ∀ t, n ≤ t → t < ops.size → listed.getD t true = false) : TailWaits md ops n listed := by
 intro i hi hun t hnt hr;obtain ⟨_, ot, hot, hall⟩ := mem_ready.1 hr;have htlt : t < ops.size := (Array.getElem?_eq_some_iff.1 hot).1;by_cases htn : t = n
 ·subst htn;obtain ⟨o', ho', e, he, hb, hon⟩ := Region.waitsFor_spec (List.all_eq_true.1 hp i (List.mem_range.2 hi));have : o' = ot := Option.some.inj (ho'.symm.trans hot);subst this;have h2 := hall e he hb;rw [hon, getD_both hun] at h2; cases h2
 ·have h1 := List.all_eq_true.1 hc t (List.mem_range.2 htlt);simp only [Bool.or_eq_true, decide_eq_true_eq] at h1;rcases h1 with h1 | h1
  ·omega
  ·obtain ⟨o', ho', e, he, hb, hon⟩ := Region.waitsFor_spec h1;have : o' = ot := Option.some.inj (ho'.symm.trans hot);subst this;have h2 := hall e he hb;rw [hon, getD_both (ht (t - 1) (by omega) (by omega))] at h2; cases h2
def lateB (md : Region.Mode) (ops : Array Oper) (n j s : Nat) (d t : Tmp) : Bool :=
 Region.noSelect ops && decide (n < ops.size) && decide (j < n) && decide (s < n) && decide (j ≠ s) && decide (d ≠ t) && Region.sinkB md ops n && Region.chainB md ops n && phaseB md ops n && backB md ops n && Region.waitsFor md ops s j && writersB md ops n s t && quietApartB ops n j s d &&
 orderB md ops n (ops.size - n) ((List.range n).filter fun i => i != j && i != s) (((Array.replicate ops.size false).setIfInBounds j true).setIfInBounds s true)
end
theorem count_two {n j s : Nat} (hj : j < n) (hs : s < n) (hjs : j ≠ s) : ((List.range n).filter fun i => i != j && i != s).length + 1 + 1 = n := by
 have h1 : ∀ (l : List Nat) (x : Nat), l.Nodup → x ∈ l → (l.filter fun i => i != x).length + 1 = l.length := by
  intro l;induction l with
  | nil => intro x _ hx; cases hx
  | cons y l ih =>
   intro x hnd hx;by_cases hxy : y = x
   ·subst hxy;have hno : y ∉ l := (List.nodup_cons.1 hnd).1;have : l.filter (fun i => i != y) = l := List.filter_eq_self.2 fun z hz => by
     simp only [bne_iff_ne, ne_eq]; rintro rfl; exact hno hz
    simp [this]
   ·have hx2 : x ∈ l := by
      rcases List.mem_cons.1 hx with h | h
      ·exact absurd h.symm hxy
      ·exact h
    have := ih x (List.nodup_cons.1 hnd).2 hx2;rw [List.filter_cons_of_pos (by simpa using hxy)];simp only [List.length_cons]; omega
 have e : ((List.range n).filter fun i => i != j && i != s) = ((List.range n).filter fun i => i != j).filter fun i => i != s := by
  rw [List.filter_filter];congr 1; funext i; exact Bool.and_comm _ _
 rw [e];have a1 := h1 (List.range n) j List.nodup_range (List.mem_range.2 hj);have a2 := h1 ((List.range n).filter fun i => i != j) s (List.nodup_range.filter _) (List.mem_filter.2 ⟨List.mem_range.2 hs, by simpa using Ne.symm hjs⟩);rw [List.length_range] at a1;omega
theorem range_two (m : Nat) : ((List.range (m + 2)).filter fun i => i != m && i != m + 1) = List.range m := by
 rw [List.range_succ, List.range_succ, List.filter_append, List.filter_append];have h1 : (List.range m).filter (fun i => i != m && i != m + 1) = List.range m := List.filter_eq_self.2 fun z hz => by
  have := List.mem_range.1 hz;simp; omega
 rw [h1];simp
section
variable {P : Program} {ops : Array Oper} {md : Region.Mode} {C : World → Prop}
theorem zGm {n g : Nat} {Q : Exit → Act → World → Prop} {L : Array Bool → Act → Prop} {D : World → Prop} (hD : ∀ w, D w → C w) (hDe : ∀ w w', D w → Ext w w' → D w')
    (hL : ∀ listed a w, D w → L listed a → wpAny P md ops Q g listed a w) :
    ∀ (f : Nat) (listed : Array Bool) (a : Act) (w : World), D w → rAny P md ops C n L f listed a → wpAny P md ops Q (f + g) listed a w
 | 0, listed, a, w, hw, h => by rw [Nat.zero_add]; exact hL _ _ _ hw h
 | f + 1, listed, a, w, hw, h => by
  rw [show f + 1 + g = (f + g) + 1 by omega];refine ⟨fun h0 => absurd h0 h.1, fun i hi => ?_⟩;obtain ⟨hin, o, v, ho, hy, hK⟩ := h.2 i hi;refine zAw ho (hD w hw) hy fun w' hw' => ?_;exact zGm hD hDe hL f _ _ w' (hDe _ _ hw hw') hK
def orderG (md : Region.Mode) (ops : Array Oper) (n : Nat) (S : Array Bool → Bool) : List Nat → Array Bool → Bool
 | [], listed => S listed
 | k :: is, listed => decide (k < n) && (Region.ready md ops listed).contains k && Region.free md ops listed k && orderG md ops n S is (listed.setIfInBounds k true)
theorem zE5 {n : Nat} {Lq : Act → Prop} {S : Array Bool → Bool} (hsel : Region.noSelect ops = true) (Inv : Array Bool → Prop)
    (hinv : ∀ listed j, Inv listed → j ∈ Region.ready md ops listed → j < n → Inv (listed.setIfInBounds j true)) (htail : ∀ listed, Inv listed → TailWaits md ops n listed)
    (hS : ∀ listed, S listed = true → ∀ j ∈ Region.ready md ops listed, n ≤ j) :
    ∀ (is : List Nat) (l : List Oper) (listed : Array Bool) (a : Act), is.map (fun i => ops[i]?) = l.map some → Inv listed → orderG md ops n S is listed = true → rWalk P ops C Lq l a →
     rAny P md ops C n (fun listed' a' => S listed' = true ∧ Lq a') is.length listed a
 | [], [], listed, a, _, _, hB, h => ⟨hB, h⟩
 | [], _ :: _, _, _, hl, _, _, _ => by cases hl
 | _ :: _, [], _, _, hl, _, _, _ => by cases hl
 | k :: is, o :: l, listed, a, hl, inv, hB, h => by
  simp only [List.map_cons, List.cons.injEq] at hl;obtain ⟨h0, hl⟩ := hl;simp only [orderG, Bool.and_eq_true, decide_eq_true_eq] at hB;obtain ⟨⟨⟨hkn, hr⟩, hf⟩, hB'⟩ := hB;have hr' : k ∈ Region.ready md ops listed := by simpa using hr
  obtain ⟨v, hy, hK⟩ := rYields.of_walk h;exact zDr h0 (Region.noSelect_spec hsel) hkn Inv hinv htail (fun listed' a' hL => hS _ hL.1) is.length listed a inv (Region.free_spec h0 hf) hr' hy
   (zE5 hsel Inv hinv htail hS is l _ _ hl (hinv _ _ inv hr' hkn) hB' hK)
theorem zDy {n : Nat} {listed : Array Bool} (h : ((List.range n).all fun i => listed.getD i false) = true) : ∀ j ∈ Region.ready md ops listed, n ≤ j := by
 intro j hj;rcases Nat.lt_or_ge j n with hl | hl
 ·have h1 := List.all_eq_true.1 h j (List.mem_range.2 hl);have h2 := (mem_ready.1 hj).1;rw [getD_both h2] at h1; cases h1
 ·exact hl
end
end Go.Proofs.YtjkfakaehjmnbaaGreat
namespace Go.Proofs.YtjkfakaehjmnbaaGreat
open Go.RowKit
attribute [local go_sem] rOper rAt rUpon cell_set sg_i64 sg_u64
theorem zE4 (h1 l1 h2 l2 : Int) (k : Ok h1 l1) (q : Ok h2 l2) (w : World) :
    Calls Tryz.prog 85 #[.agg #[.int .i64 h1, .int .u64 l1], .agg #[.int .i64 h2, .int .u64 l2]] w fun e w' =>
     e = .returned (.agg #[.int .i64 (mH (V h1 l1 + V h2 l2)), .int .u64 (mL (V h1 l1 + V h2 l2))]) ∧ Below w.heap.size w w' := by
 obtain ⟨e1, e2⟩ := m_sum k q;obtain ⟨c1, c2⟩ := lo_lt k.l0 k.l1 q.l0 q.l1;have e3 : lo l1 l2 = IntKind.u64.wrap (l1 + l2) := by rw [IntKind.wrap_u64]; rfl
 rw [e1, e2, e3];rw [e3] at c1 c2;clear e1 e2 e3
 go_enter Tryz.func85, Tryz.ntmps85
 go_wp2;all_goals go_returns
 ·rename_i h
  exact ⟨by rw [c1 h], by go_grown⟩
 ·rename_i h
  exact ⟨by rw [c2 h, Int.add_zero], by go_grown⟩
theorem zK8 (h l : Int) (k : Ok h l) (w : World) :
    Calls Tryz.prog 86 #[.agg #[.int .i64 h, .int .u64 l]] w fun e w' =>
     e = .returned (.agg #[.int .i64 (mH (-V h l)), .int .u64 (mL (-V h l))]) ∧ Below w.heap.size w w' := by
 have x1 := xor_i64 h k.h0 k.h1;have x2 := xor_u64 l k.l0 k.l1;have c := zE4 (-1 - h) (18446744073709551615 - l) 0 1 ⟨by have := k.h0; have := k.h1; omega, by have := k.h0; have := k.h1; omega, by have := k.l0; have := k.l1; omega, by have := k.l0; have := k.l1; omega⟩ ⟨by omega, by omega, by omega, by omega⟩;rw [show V (-1 - h) (18446744073709551615 - l) + V 0 1 = -V h l by unfold V; omega] at c
 go_enter Tryz.func86, Tryz.ntmps86
 go_wp2_with fail;refine (c _).mono ?_;rintro e w1 ⟨rfl, hb⟩;simp only [World.size_alloc] at hb;obtain ⟨hc, hf, hz, hy, hv⟩ := bcell hb (by simp only [World.size_alloc]);go_wp2;refine bodyPost_ret (by simp [results, Tryz.results86, go_sem, hc]; try rfl) rfl ⟨rfl, ?_⟩;exact ((((Below.refl _ _).alloc (Nat.le_refl _) _).alloc (by simp) _).trans (hb.mono (by omega))).setCell (by simp) _ |>.setCell (by simp) _
end Go.Proofs.YtjkfakaehjmnbaaGreat
namespace Go.Proofs.YtjkfakaehjmnbaaGreat
open Go.RowKit
attribute [local go_sem] rOper rAt rUpon cell_set sg_i64 sg_u64 alloc_cell alloc_frozen
theorem sgn_mk {n m : Int} (h : m = -1 ∧ n < 0 ∨ m = 0 ∧ n = 0 ∨ m = 1 ∧ 0 < n) : m = sgn n := by
 unfold sgn; split
 ·omega
 ·split <;> omega
theorem r_sign (h l : Int) (k : Ok h l) (w : World) :
    Calls Tryz.prog 87 #[.agg #[.int .i64 h, .int .u64 l]] w fun e w' => e = .returned (.int .i64 (sgn (V h l))) ∧ Below w.heap.size w w' := by
 have K := Lib.hid k;clear k
 go_enter Tryz.func87, Tryz.ntmps87
 go_wp2;all_goals go_ret
 all_goals refine ⟨zAu (sgn_mk ?_), by go_grown⟩
 all_goals obtain ⟨a1, a2, a3, a4⟩ := K.out
 all_goals unfold V
 ·rename_i a; omega
 ·rename_i a b c; simp at c; omega
 ·rename_i a b c; simp at c; omega
 ·omega
end Go.Proofs.YtjkfakaehjmnbaaGreat
