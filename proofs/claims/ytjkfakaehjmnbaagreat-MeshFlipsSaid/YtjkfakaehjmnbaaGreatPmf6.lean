/- Put together: Row, TrB, TrL, Alike, MesB, MesC, MesD, MesE. -/
import Derived.Test.YtjkfakaehjmnbaaGreatRows
import Derived.Test.YtjkfakaehjmnbaaGreatPmf0
import Derived.Test.YtjkfakaehjmnbaaGreatPmf5
import Derived.Below
import Derived.Laws.AppendOwn
import Derived.WalkKit
import Derived.Test.YtjkfakaehjmnbaaGreatPmf1
import Derived.WalkSpells
import Derived.WalkLawsBesides
import Derived.Laws.Externs
import Derived.Deep.QuietTactic
import Derived.BigQuiet
import Derived.Lib.Hide
import Derived.Handy
import Derived.LoopN
import Derived.RegionTactic
import Derived.Laws.Cover3
set_option maxRecDepth 100000
set_option maxHeartbeats 8000000
namespace Go.Proofs.YtjkfakaehjmnbaaGreat
open Go.RowKit
instance : DecidableEq Tri3 := fun p q => decidable_of_iff (p.A = q.A ∧ p.B = q.B ∧ p.C = q.C) Tri3.eq_iff.symm
instance : Inhabited Tri3 := ⟨⟨⟨0, 0⟩, ⟨0, 0⟩, ⟨0, 0⟩⟩⟩
def cP (p : Pt) : List Value := [.int .i64 p.x, .int .i64 p.y]
def cT (t : Tri3) : List Value := [.int .i64 t.A.x, .int .i64 t.A.y, .int .i64 t.B.x, .int .i64 t.B.y, .int .i64 t.C.x, .int .i64 t.C.y]
@[reducible] def eT (t : Tri3) : Value := .agg #[.int .i64 t.A.x, .int .i64 t.A.y, .int .i64 t.B.x, .int .i64 t.B.y, .int .i64 t.C.x, .int .i64 t.C.y]
def okT (t : Tri3) : Prop := okP t.A ∧ okP t.B ∧ okP t.C
section
variable {α : Type}
def RowAt (c : α → List Value) (k : Nat) (w : World) (a : Option Addr) (L : List α) : Prop :=
 ∀ (j : Nat) (x : α), L[j]? = some x → ∃ ad, a = some ad ∧ ad.block < w.heap.size ∧ ∀ i u, (c x)[i]? = some u → w.cell? ((ad.add (j * k)).add i) = some u
theorem zAk (a : Addr) (n : Nat) : (a.add n).block = a.block := by unfold Addr.add; split <;> rfl
theorem RowAt.ext {c : α → List Value} {k : Nat} {w w' : World} {a : Option Addr} {L : List α} {n : Nat} (h : RowAt c k w a L) (hb : Below n w w') (hn : n = w.heap.size) : RowAt c k w' a L := fun j x hx => by
 obtain ⟨ad, h1, h2, h3⟩ := h j x hx;refine ⟨ad, h1, Nat.lt_of_lt_of_le h2 hb.size, fun i u hu => ?_⟩;rw [hb.cell (p := (ad.add (j * k)).add i) (by rw [zAk, zAk, hn]; exact h2)];exact h3 i u hu
theorem RowAt.ee {c : α → List Value} {k : Nat} {w w' : World} {a : Option Addr} {L : List α} (h : RowAt c k w a L) (hb : Below w.heap.size w w') : RowAt c k w' a L := h.ext hb rfl
theorem RowAt.kept {c : α → List Value} {k : Nat} {w w' : World} {a : Option Addr} {L : List α} {row : Option Nat} (h : RowAt c k w a L) (hg : w.grownBy w' row) (hne : ∀ ad, a = some ad → some ad.block ≠ row) : RowAt c k w' a L := fun j x hx => by
 obtain ⟨ad, h1, h2, h3⟩ := h j x hx;refine ⟨ad, h1, Nat.lt_of_lt_of_le h2 hg.size, fun i u hu => ?_⟩;exact hg.cell (h3 i u hu) (by rw [zAk, zAk]; exact hne ad h1)
theorem RowAt.nil {c : α → List Value} {k : Nat} {w : World} {a : Option Addr} : RowAt c k w a [] := fun j x h => by simp at h
theorem RowAt.old {c : α → List Value} {k : Nat} {w : World} {a : Option Addr} {L : List α} (h : RowAt c k w a L) (o : Obj) : RowAt c k (w.alloc o) a L :=
 h.kept (World.grownBy_alloc w o none) (by simp)
theorem RowAt.tri {w : World} {a : Option Addr} {L : List Tri3} (h : RowAt cT 6 w a L) {j : Nat} (hj : j < L.length) :
    ∃ ad A, a = some ad ∧ ad.add (j * 6) = A ∧ (A.block = w.heap.size) = False ∧ A.block < w.heap.size ∧ (w.cell? A = some (.int .i64 L[j].A.x) ∧ w.cell? ⟨A.block, A.off + 1, none⟩ = some (.int .i64 L[j].A.y) ∧ w.cell? ⟨A.block, A.off + 2, none⟩ = some (.int .i64 L[j].B.x) ∧
     w.cell? ⟨A.block, A.off + 3, none⟩ = some (.int .i64 L[j].B.y) ∧ w.cell? ⟨A.block, A.off + 4, none⟩ = some (.int .i64 L[j].C.x) ∧ w.cell? ⟨A.block, A.off + 5, none⟩ = some (.int .i64 L[j].C.y)) := by
 obtain ⟨ad, h1, h2, h3⟩ := h j L[j] (List.getElem?_eq_getElem hj);have hb : (ad.add (j * 6)).block = ad.block := zAk _ _;refine ⟨ad, _, h1, rfl, by rw [hb]; simp; omega, by rw [hb]; exact h2, ?_⟩;have e0 := h3 0 _ rfl;have e1 := h3 1 _ rfl;have e2 := h3 2 _ rfl;have e3 := h3 3 _ rfl;have e4 := h3 4 _ rfl;have e5 := h3 5 _ rfl;simp only [Addr.add_zero', Addr.add_succ'] at e0 e1 e2 e3 e4 e5;exact ⟨e0, e1, e2, e3, e4, e5⟩
theorem RowAt.pt {w : World} {a : Option Addr} {L : List Pt} (h : RowAt cP 2 w a L) {j : Nat} (hj : j < L.length) :
    ∃ ad A, a = some ad ∧ ad.add (j * 2) = A ∧ (A.block = w.heap.size) = False ∧ A.block < w.heap.size ∧ (w.cell? A = some (.int .i64 L[j].x) ∧ w.cell? ⟨A.block, A.off + 1, none⟩ = some (.int .i64 L[j].y)) := by
 obtain ⟨ad, h1, h2, h3⟩ := h j L[j] (List.getElem?_eq_getElem hj);have hb : (ad.add (j * 2)).block = ad.block := zAk _ _;refine ⟨ad, _, h1, rfl, by rw [hb]; simp; omega, by rw [hb]; exact h2, ?_⟩;have e0 := h3 0 _ rfl;have e1 := h3 1 _ rfl;simp only [Addr.add_zero', Addr.add_succ'] at e0 e1;exact ⟨e0, e1⟩
end
end Go.Proofs.YtjkfakaehjmnbaaGreat
namespace Go.Proofs.YtjkfakaehjmnbaaGreat
open Go.RowKit Go.Sort
attribute [local go_sem] rOper rAt rUpon cell_set sg_i64 sg_u64 alloc_cell alloc_frozen
attribute [local go_sem 10000] pt_eql pt_neq tri_eql
attribute [local irreducible] rWalk
theorem zJz (T : Tri3) (i : Int) (w : World) :
    Calls Tryz.prog 91 #[.agg #[.int .i64 T.A.x, .int .i64 T.A.y, .int .i64 T.B.x, .int .i64 T.B.y, .int .i64 T.C.x, .int .i64 T.C.y], .int .i64 i] w fun e w' => e = .returned (.tuple #[.agg #[.int .i64 (crn T i).x, .int .i64 (crn T i).y], .agg #[.int .i64 (crn T (i + 1)).x, .int .i64 (crn T (i + 1)).y]]) ∧ Below w.heap.size w w' := by
 have cp := zEw i;have d1 := zE1 T (plc i);have d2 := zE1 T (plc i + 1);rw [crn_plc] at d1;rw [crn_next] at d2;have hk := zGo i;have hq : wrap64 (plc i + 1) = plc i + 1 := by rw [w64]; omega
 have hq2 : IntKind.i64.wrap (plc i + 1) = plc i + 1 := by rw [IntKind.wrap_i64]; omega
 generalize crn T i = P at *
 generalize crn T (i + 1) = Q at *
 generalize plc i = k at *
 clear hk
 go_enter Tryz.func91, Tryz.ntmps91
 go_wp2_with fail;refine zA1 fun W1 hW => ?_;obtain ⟨Bt, Br, Bq, hw⟩ := N3 hW;clear hW;refine (cp _).mono ?_;rintro e w2 ⟨rfl, hb⟩;obtain ⟨Bt, Br, Bq, hw, -⟩ := X3 Bt Br Bq hw hb;clear hb;have Ft := Bt.f;have Fr := Br.f;have Fq := Bq.f;go_wp2_with fail;refine zA2 fun W9 hW => ?_;subst hW;clear Ft Fr Fq;have g_trq := J3 Bt.cells Br.cells Bq.cells;refine wrt 7 (by kernel_rfl) (by kernel_rfl) ?_;simp only [tK1, tK0, dP1, dP0];repeat (first | (refine zA0 (Eq.refl false) ?_; simp only [Act.put, sT2, sT1, sT0]) | (refine rWalk_step (fun K hK => ?_); go_simp; first | (refine hK _ ?_; clear hK K) | (apply Exists.intro; refine ⟨fun _ => ?_, hK _ ?_⟩; (first | with_reducible exact toExt d1 _ | with_reducible exact toExt d2 _); clear hK K)))
 refine rWalk_nil ?_;intro w3 hb;clear g_trq;obtain ⟨Bt, Br, Bq, hw, -⟩ := X3 Bt Br Bq hw hb;have Ft := Bt.f;have Fr := Br.f;have Fq := Bq.f;go_wp2_with fail;refine bodyPost_ret (v := .tuple #[.agg #[.int .i64 P.x, .int .i64 P.y], .agg #[.int .i64 Q.x, .int .i64 Q.y]]) (by simp [results, Tryz.results91, go_sem, Fr, Fq]) rfl ⟨rfl, by have hl := hw.size; go_grown⟩
def mn3 (x y z : Int) : Int := if z < (if y < x then y else x) then z else (if y < x then y else x)
theorem run_mn3 {P : Program} (w : World) (ts : Array TypeId) (t : TypeId) (k k' k'' : IntKind) (x y z : Int) : (Builtin.min_ ts t #[.int k x, .int k' y, .int k'' z]).run P w = .ok (.int k (mn3 x y z)) w := run_min_int3 w ts t k k' k'' x y z
attribute [local go_sem 10000] run_mn3
def sde (T : Tri3) (p : Pt) : Int := mn3 (ori T.A T.B p) (ori T.B T.C p) (ori T.C T.A p)
def hasS (T : Tri3) (p : Pt) : Bool := valT T && (vld p && decide (0 ≤ sde T p))
end Go.Proofs.YtjkfakaehjmnbaaGreat
namespace Go.Proofs.YtjkfakaehjmnbaaGreat
open Go.RowKit Go.Sort
theorem wp_region_lateG {P : Program} {C : World → Prop} {id : Nat} {Q : Exit → Act → World → Prop} {a : Act} {w : World} {l hd : List Oper} (n j s : Nat) (d t : Tmp) {T : TypeId} {zs us : List Value} {eff : Nat → World → World} (heff : ∀ (w : World) (b : Nat), w.heap[b]? = some (.cells zs.toArray T) → (eff b w).heap[b]? = some (.cells us.toArray T) ∧ (∀ B, B ≤ b → Below B w (eff b w))) (u : Value) {oj os : Oper}
    (hoj : l.toArray[j]? = some oj) (hos : l.toArray[s]? = some os) (hjd : oj.dst = some d) (hafter : oj.after = #[]) (hguard : oj.guard = none) (hsd : os.dst = none) (hsg : os.guard = none)
    (hdsz : d < a.tmps.size)
    (hrun : ∀ (ρ : Operand → Value) (w : World), (execOp ρ oj).run P w = .ok (.value (.pointer (some ⟨w.heap.size, 0, none⟩))) (w.alloc (.cells zs.toArray T)))
    (hm : P.follows .mixedOrders = true) (hB : lateB .any l.toArray n j s d t = true)
    (hhd : ((List.range n).filter fun i => i != j && i != s).map (fun i => l.toArray[i]?) = hd.map some)
    (hC : ∀ w', Below w.heap.size w w' → C w')
    (h : rWalk P l.toArray C (fun a' => a'.eval (.tmp t) = u ∧ ∀ w' b, Below w.heap.size w w' → w.heap.size ≤ b → b < w'.heap.size → Box w' b us T → wpList P l.toArray Q (l.drop n) (a'.put (some d) (.pointer (some ⟨b, 0, none⟩))) w') hd a)
    (hst : ∀ (ρ : Operand → Value) (w : World) (b : Nat), ρ (.tmp d) = .pointer (some ⟨b, 0, none⟩) → ρ (.tmp t) = u → Box w b zs T → (execOp ρ os).run P w = .ok .skip (eff b w)) :
    (Code.region id l.toArray true).wp P Q a w := by
 simp only [lateB, Bool.and_eq_true, decide_eq_true_eq] at hB;obtain ⟨⟨⟨⟨⟨⟨⟨⟨⟨⟨⟨⟨⟨hsel, hn⟩, hjn⟩, hsn⟩, hjs⟩, hdt⟩, hs⟩, hc⟩, hph⟩, hbk⟩, hsj⟩, hwr⟩, hqa⟩, ho⟩ := hB;have K : Late P .any l.toArray n j s d t T zs.toArray us.toArray u oj os eff :=
  ⟨hsel, hn, hjn, hsn, hjs, hs, hc, hbk, hoj, hos, hjd, hafter, hguard, hsd, hsg, hsj, hdt, hwr, hrun, hst, fun w b h => heff w b h⟩
 have hjz : (Array.replicate l.toArray.size false).getD j true = false := getD_in (by simp; simp at hn; omega) (getD_replicate_false _ _);have hsz : (Array.replicate l.toArray.size false).getD s true = false := getD_in (by simp; simp at hn; omega) (getD_replicate_false _ _);have tl : ∀ (m : Array Bool) (i : Nat), i < n → (m.size = l.toArray.size ∧ ∀ t', n ≤ t' → t' < l.toArray.size → m.getD t' true = false) → ((m.setIfInBounds i true).size = l.toArray.size ∧ ∀ t', n ≤ t' → t' < l.toArray.size → (m.setIfInBounds i true).getD t' true = false) :=
  fun m i hi ⟨h1, h2⟩ => ⟨by simpa using h1, fun t' ht ht' => by rw [getD_set_ne true (by omega)]; exact h2 t' ht ht'⟩
 have i0 : (Array.replicate l.toArray.size false).size = l.toArray.size ∧ ∀ t', n ≤ t' → t' < l.toArray.size → (Array.replicate l.toArray.size false).getD t' true = false :=
  ⟨by simp, fun t' _ ht' => getD_in (by simpa using ht') (getD_replicate_false _ _)⟩
 have H := zBv (md := .any) (g := l.toArray.size - n) hsel (fun m => m.size = l.toArray.size ∧ ∀ t', n ≤ t' → t' < l.toArray.size → m.getD t' true = false) (fun m i hi _ hin => tl m i hin hi) (fun m hm => phase_waits hph hc hm.2)
  ((List.range n).filter fun i => i != j && i != s) hd _ a hhd (tl _ s hsn (tl _ j hjn i0)) ho h
 refine wp_region_any hm ?_;have R := late_zero (md := .any) (Q := Q) (l := l.drop n) (w0 := w) K hqa (g := l.toArray.size - n) (by simp) (fun j => by simp [List.getElem?_drop]) hC (fun a' hl => hl.1)
  (fun a' w' b h1 h2 h3 h4 hl => hl.2 w' b h1 h2 h3 h4) _ (Array.replicate l.toArray.size false) a { w with drawn := w.drawn + 1 } hdsz ⟨rfl, rfl, rfl, Nat.le_refl _, fun _ _ => rfl⟩ hjz hsz headInv0 H
 have hcount : ((List.range n).filter fun i => i != j && i != s).length + 1 + 1 = n := count_two hjn hsn hjs;rw [show ((List.range n).filter fun i => i != j && i != s).length + (l.toArray.size - n) + 1 + 1 = l.toArray.size by omega] at R;exact R
theorem zA3 {P : Program} {C : World → Prop} {id : Nat} {Q : Exit → Act → World → Prop} {a : Act} {w : World} {l : List Oper} (m : Nat) (d t : Tmp) {T : TypeId} {zs : List Value} (us : List Value) {eff : Nat → World → World} (heff : ∀ (w : World) (b : Nat), w.heap[b]? = some (.cells zs.toArray T) → (eff b w).heap[b]? = some (.cells us.toArray T) ∧ (∀ B, B ≤ b → Below B w (eff b w))) {oj os : Oper}
    (hoj : l.toArray[m]? = some oj) (hos : l.toArray[m + 1]? = some os) (hjd : oj.dst = some d) (hafter : oj.after = #[]) (hguard : oj.guard = none) (hsd : os.dst = none) (hsg : os.guard = none)
    (hdsz : d < a.tmps.size)
    (hrun : ∀ (ρ : Operand → Value) (w : World), (execOp ρ oj).run P w = .ok (.value (.pointer (some ⟨w.heap.size, 0, none⟩))) (w.alloc (.cells zs.toArray T)))
    (hm : P.follows .mixedOrders = true) (hB : lateB .any l.toArray (m + 2) m (m + 1) d t = true)
    (hC : ∀ w', Below w.heap.size w w' → C w')
    (h : rWalk P l.toArray C (fun a' => a'.eval (.tmp t) = .agg us.toArray ∧ ∀ w' b, Below w.heap.size w w' → w.heap.size ≤ b → b < w'.heap.size → Box w' b us T → wpList P l.toArray Q (l.drop (m + 2)) (a'.put (some d) (.pointer (some ⟨b, 0, none⟩))) w') (l.take m) a)
    (hst : ∀ (ρ : Operand → Value) (w : World) (b : Nat), ρ (.tmp d) = .pointer (some ⟨b, 0, none⟩) → ρ (.tmp t) = .agg us.toArray → Box w b zs T → (execOp ρ os).run P w = .ok .skip (eff b w)) :
    (Code.region id l.toArray true).wp P Q a w := by
 refine wp_region_lateG (hd := l.take m) (m + 2) m (m + 1) d t heff _ hoj hos hjd hafter hguard hsd hsg hdsz hrun hm hB ?_ hC h hst;have hn : m + 2 < l.length := by
  simp only [lateB, Bool.and_eq_true, decide_eq_true_eq] at hB;have := hB.1.1.1.1.1.1.1.1.1.1.1.1.2
  simpa using this
 rw [range_two];apply List.ext_getElem?;intro j;simp only [List.getElem?_map, List.getElem?_take];by_cases hj : j < m
 ·simp [hj, show j < l.length by omega]
 ·simp [hj]
def eff6 (c0 c1 c2 c3 c4 c5 : Value) (b : Nat) (w : World) : World := (((((w.setCell ⟨b, 0, none⟩ c0).setCell ⟨b, 1, none⟩ c1).setCell ⟨b, 2, none⟩ c2).setCell ⟨b, 3, none⟩ c3).setCell ⟨b, 4, none⟩ c4).setCell ⟨b, 5, none⟩ c5
theorem zAc {c0 c1 c2 c3 c4 c5 z : Value} {T : TypeId} (w : World) (b : Nat) (h : w.heap[b]? = some (.cells [z, z, z, z, z, z].toArray T)) : (eff6 c0 c1 c2 c3 c4 c5 b w).heap[b]? = some (.cells [c0, c1, c2, c3, c4, c5].toArray T) ∧ (∀ B, B ≤ b → Below B w (eff6 c0 c1 c2 c3 c4 c5 b w)) := by
 have B0 : Box w b [z, z, z, z, z, z] T := h;exact ⟨(((((B0.set 0 c0).set 1 c1).set 2 c2).set 3 c3).set 4 c4).set 5 c5, fun B hB => ((((((Below.refl B w).setCell hB _).setCell hB _).setCell hB _).setCell hB _).setCell hB _).setCell hB _⟩
attribute [local go_sem] rOper rAt rUpon cell_set sg_i64 sg_u64 alloc_cell alloc_frozen
attribute [local go_sem 10000] pt_eql pt_neq tri_eql
attribute [local irreducible] rWalk
theorem tri_neq (s u : Tri3) (w : World) : (binOp .neq 43 (.agg #[.int .i64 s.A.x, .int .i64 s.A.y, .int .i64 s.B.x, .int .i64 s.B.y, .int .i64 s.C.x, .int .i64 s.C.y]) (.agg #[.int .i64 u.A.x, .int .i64 u.A.y, .int .i64 u.B.x, .int .i64 u.B.y, .int .i64 u.C.x, .int .i64 u.C.y])).run Tryz.prog w = .ok (.bool (!teq s u)) w := by
 unfold teq peqI;by_cases h1 : s.A.x = u.A.x
 case neg => simp [go_sem, h1]
 case pos =>
 by_cases h2 : s.A.y = u.A.y
 case neg => simp [go_sem, h1, h2]
 case pos =>
 by_cases h3 : s.B.x = u.B.x
 case neg => simp [go_sem, h1, h2, h3]
 case pos =>
 by_cases h4 : s.B.y = u.B.y
 case neg => simp [go_sem, h1, h2, h3, h4]
 case pos =>
 by_cases h5 : s.C.x = u.C.x
 case neg => simp [go_sem, h1, h2, h3, h4, h5]
 case pos =>
 by_cases h6 : s.C.y = u.C.y
 ·simp [go_sem, h1, h2, h3, h4, h5, h6]
 ·simp [go_sem, h1, h2, h3, h4, h5, h6]
attribute [local go_sem 10000] tri_neq
theorem alike_T (a1 a2 : Option Addr) (c1 c2 : Nat) (L1 L2 : List Tri3) (w : World) (h1 : RowAt cT 6 w a1 L1) (h2 : RowAt cT 6 w a2 L2) (hl1 : L1.length ≤ 1000000) :
    Calls Tryz.prog 32 #[.slice a1 L1.length c1, .slice a2 L2.length c2] w fun e w' => e = .returned (.bool (decide (L1 = L2))) ∧ Below w.heap.size w w' := by
 by_cases hl : L1.length = L2.length
 case neg =>
  have hne : L1 ≠ L2 := fun e => hl (by rw [e]);have hd : decide (L1 = L2) = false := by simpa using hne
  rw [hd];have hb2 : ((L1.length : Int) != L2.length) = true := by rw [bne_iff_ne]; omega
  clear h1 h2 hne hd;generalize L1.length = n1 at *
  generalize L2.length = n2 at *
  go_enter Tryz.func32, Tryz.ntmps32
  go_wp2
  go_ret
  exact ⟨rfl, Below.refl _ _⟩
 case pos =>
  obtain ⟨n, hn1⟩ : ∃ n, L1.length = n := ⟨_, rfl⟩;have hn2 : L2.length = n := by rw [← hl, hn1]
  have hb2 : ((n : Int) != n) = false := by simp
  rw [hn1, hn2];have hn : n ≤ 1000000 := hn1 ▸ hl1;have H1 := Lib.hid hn1;have H2 := Lib.hid hn2;clear hn1 hn2 hl hl1
  go_enter Tryz.func32, Tryz.ntmps32
  go_wp2
  go_loopw [5] (fun i wr => ∃ k : Nat, k ≤ n ∧ i = .int .i64 k ∧ Hid (L1.take k = L2.take k) ∧ Below w.heap.size w wr) (fun i _ => n - (intOf i).toNat)
  case atStart => exact ⟨0, Nat.zero_le _, rfl, Lib.hid rfl, Below.refl _ _⟩
  case round =>
   obtain ⟨k, hk, rfl, hT, hw⟩ := hrel;by_cases hlt : k < n
   ·have r1 := h1.ee hw;have r2 := h2.ee hw;obtain ⟨ad1, A1, ea1, eA1, _, _, q0, q1, q2, q3, q4, q5⟩ := r1.tri (j := k) (by rw [H1.out]; exact hlt);obtain ⟨ad2, A2, ea2, eA2, _, _, p0, p1, p2, p3, p4, p5⟩ := r2.tri (j := k) (by rw [H2.out]; exact hlt);clear r1 r2;have e1 : L1[k]'(by rw [H1.out]; exact hlt) = L1[k]'(by rw [H1.out]; exact hlt) := rfl;by_cases he : L1[k]'(by rw [H1.out]; exact hlt) = L2[k]'(by rw [H2.out]; exact hlt)
    ·have hd : teq (L1[k]'(by rw [H1.out]; exact hlt)) (L2[k]'(by rw [H2.out]; exact hlt)) = true := zCn.2 he;have HE := Lib.hid he;clear he e1;go_wp2
     go_quiet (fail)
     go_wp2
     go_roundw
     case rel => 
      refine ⟨k + 1, by omega, by go_num, Lib.hid ?_, ?_⟩
      ·rw [List.take_succ_eq_append_getElem (by rw [H1.out]; exact hlt), List.take_succ_eq_append_getElem (by rw [H2.out]; exact hlt), hT.out, HE.out]
      ·exact hw.trans ⟨rfl, rfl, rfl, Nat.le_refl _, fun _ _ => rfl⟩
     case measure => simp [intOf]; omega
    ·have hd : teq (L1[k]'(by rw [H1.out]; exact hlt)) (L2[k]'(by rw [H2.out]; exact hlt)) = false := by rw [← Bool.not_eq_true, zCn]; exact he
     have hne : decide (L1 = L2) = false := by rw [decide_eq_false_iff_not]; intro e; subst e; exact he rfl
     have HN := Lib.hid hne;clear he e1 hne;go_wp2
     go_quiet (fail)
     go_wp2
     go_ret
     exact ⟨zCr HN.out.symm, hw.trans ⟨rfl, rfl, rfl, Nat.le_refl _, fun _ _ => rfl⟩⟩
   ·have he : L1 = L2 := by
      have := hT.out
      rwa [List.take_of_length_le (by rw [H1.out]; omega), List.take_of_length_le (by rw [H2.out]; omega)] at this
    have hd : decide (L1 = L2) = true := by simpa using he
    have HN := Lib.hid hd;clear he hd;go_wp2
    go_ret
    exact ⟨zCr HN.out.symm, hw⟩
theorem zBk {p q : Pt} : peqI p.x p.y q.x q.y = true ↔ p = q := zBx.trans Pt.eq_iff.symm
theorem alike_P (a1 a2 : Option Addr) (c1 c2 : Nat) (L1 L2 : List Pt) (w : World) (h1 : RowAt cP 2 w a1 L1) (h2 : RowAt cP 2 w a2 L2) (hl1 : L1.length ≤ 1000000) :
    Calls Tryz.prog 37 #[.slice a1 L1.length c1, .slice a2 L2.length c2] w fun e w' => e = .returned (.bool (decide (L1 = L2))) ∧ Below w.heap.size w w' := by
 by_cases hl : L1.length = L2.length
 case neg =>
  have hne : L1 ≠ L2 := fun e => hl (by rw [e]);have hd : decide (L1 = L2) = false := by simpa using hne
  rw [hd];have hb2 : ((L1.length : Int) != L2.length) = true := by rw [bne_iff_ne]; omega
  clear h1 h2 hne hd;generalize L1.length = n1 at *
  generalize L2.length = n2 at *
  go_enter Tryz.func37, Tryz.ntmps37
  go_wp2
  go_ret
  exact ⟨rfl, Below.refl _ _⟩
 case pos =>
  obtain ⟨n, hn1⟩ : ∃ n, L1.length = n := ⟨_, rfl⟩;have hn2 : L2.length = n := by rw [← hl, hn1]
  have hb2 : ((n : Int) != n) = false := by simp
  rw [hn1, hn2];have hn : n ≤ 1000000 := hn1 ▸ hl1;have H1 := Lib.hid hn1;have H2 := Lib.hid hn2;clear hn1 hn2 hl hl1
  go_enter Tryz.func37, Tryz.ntmps37
  go_wp2
  go_loopw [5] (fun i wr => ∃ k : Nat, k ≤ n ∧ i = .int .i64 k ∧ Hid (L1.take k = L2.take k) ∧ Below w.heap.size w wr) (fun i _ => n - (intOf i).toNat)
  case atStart => exact ⟨0, Nat.zero_le _, rfl, Lib.hid rfl, Below.refl _ _⟩
  case round =>
   obtain ⟨k, hk, rfl, hT, hw⟩ := hrel;by_cases hlt : k < n
   ·have r1 := h1.ee hw;have r2 := h2.ee hw;obtain ⟨ad1, A1, ea1, eA1, _, _, q0, q1⟩ := r1.pt (j := k) (by rw [H1.out]; exact hlt);obtain ⟨ad2, A2, ea2, eA2, _, _, p0, p1⟩ := r2.pt (j := k) (by rw [H2.out]; exact hlt);clear r1 r2;have e1 : L1[k]'(by rw [H1.out]; exact hlt) = L1[k]'(by rw [H1.out]; exact hlt) := rfl;by_cases he : L1[k]'(by rw [H1.out]; exact hlt) = L2[k]'(by rw [H2.out]; exact hlt)
    ·have hd : peqI (L1[k]'(by rw [H1.out]; exact hlt)).x (L1[k]'(by rw [H1.out]; exact hlt)).y (L2[k]'(by rw [H2.out]; exact hlt)).x (L2[k]'(by rw [H2.out]; exact hlt)).y = true := zBk.2 he;have HE := Lib.hid he;clear he e1;go_wp2
     go_quiet (fail)
     go_wp2
     go_roundw
     case rel => 
      refine ⟨k + 1, by omega, by go_num, Lib.hid ?_, ?_⟩
      ·rw [List.take_succ_eq_append_getElem (by rw [H1.out]; exact hlt), List.take_succ_eq_append_getElem (by rw [H2.out]; exact hlt), hT.out, HE.out]
      ·exact hw.trans ⟨rfl, rfl, rfl, Nat.le_refl _, fun _ _ => rfl⟩
     case measure => simp [intOf]; omega
    ·have hd : peqI (L1[k]'(by rw [H1.out]; exact hlt)).x (L1[k]'(by rw [H1.out]; exact hlt)).y (L2[k]'(by rw [H2.out]; exact hlt)).x (L2[k]'(by rw [H2.out]; exact hlt)).y = false := by rw [← Bool.not_eq_true, zBk]; exact he
     have hne : decide (L1 = L2) = false := by rw [decide_eq_false_iff_not]; intro e; subst e; exact he rfl
     have HN := Lib.hid hne;clear he e1 hne;go_wp2
     go_quiet (fail)
     go_wp2
     go_ret
     exact ⟨zCr HN.out.symm, hw.trans ⟨rfl, rfl, rfl, Nat.le_refl _, fun _ _ => rfl⟩⟩
   ·have he : L1 = L2 := by
      have := hT.out
      rwa [List.take_of_length_le (by rw [H1.out]; omega), List.take_of_length_le (by rw [H2.out]; omega)] at this
    have hd : decide (L1 = L2) = true := by simpa using he
    have HN := Lib.hid hd;clear he hd;go_wp2
    go_ret
    exact ⟨zCr HN.out.symm, hw⟩
end Go.Proofs.YtjkfakaehjmnbaaGreat
namespace Go.Proofs.YtjkfakaehjmnbaaGreat
open Go.RowKit Go.Sort
attribute [local go_sem] rOper rAt rUpon cell_set sg_i64 sg_u64 alloc_cell alloc_frozen
attribute [local go_sem 10000] pt_eql pt_neq tri_eql
attribute [local irreducible] rWalk
theorem zAp (w : World) : (zeroValue 43).run Tryz.prog w = .ok (.agg #[.int .i64 0, .int .i64 0, .int .i64 0, .int .i64 0, .int .i64 0, .int .i64 0]) w := by kernel_rfl
theorem HoldsMap.look_some {P : Program} {k e t : TypeId} {eK : Pt × Pt → Value} {ok : Pt × Pt → Prop} {w : World} {b : Nat} {E : List ((Pt × Pt) × Tri3)} (h : HoldsMap eK eT ok w b E) (V : KV P k e t eK ok) {z : Value} (hz : ∀ w, (zeroValue e).run P w = .ok z w) {x : Pt × Pt} (hx : ok x) {v : Tri3} (hg : getE E x = some v) :
    (Instr.lookup t (.map (some b)) (eK x) true).run P w = .ok (.tuple #[eT v, .bool true]) w := by
 rw [h.look V (hz w) hx, hg]
theorem HoldsMap.look_none {P : Program} {k e t : TypeId} {eK : Pt × Pt → Value} {ok : Pt × Pt → Prop} {w : World} {b : Nat} {E : List ((Pt × Pt) × Tri3)} (h : HoldsMap eK eT ok w b E) (V : KV P k e t eK ok) {z : Value} (hz : ∀ w, (zeroValue e).run P w = .ok z w) {x : Pt × Pt} (hx : ok x) (hg : getE E x = none) :
    (Instr.lookup t (.map (some b)) (eK x) true).run P w = .ok (.tuple #[z, .bool false]) w := by
 rw [h.look V (hz w) hx, hg]
def lftE (E : List ((Pt × Pt) × Tri3)) (p q : Pt) : Tri3 × Bool := match getE E (p, q) with | some t => (t, true) | none => (⟨⟨0, 0⟩, ⟨0, 0⟩, ⟨0, 0⟩⟩, false)
theorem zAn {E : List ((Pt × Pt) × Tri3)} {p q : Pt} {t : Tri3} (h : getE E (p, q) = some t) : lftE E p q = (t, true) := by unfold lftE; rw [h]
theorem zBr {E : List ((Pt × Pt) × Tri3)} {p q : Pt} (h : getE E (p, q) = none) : lftE E p q = (⟨⟨0, 0⟩, ⟨0, 0⟩, ⟨0, 0⟩⟩, false) := by unfold lftE; rw [h]
theorem zJ7 (T : Tri3) (i : Int) (w : World) :
    Calls Tryz.prog 99 #[.agg #[.int .i64 T.A.x, .int .i64 T.A.y, .int .i64 T.B.x, .int .i64 T.B.y, .int .i64 T.C.x, .int .i64 T.C.y], .int .i64 i] w fun e w' => e = .returned (.agg #[.int .i64 (crn T i).x, .int .i64 (crn T i).y, .int .i64 (crn T (i + 1)).x, .int .i64 (crn T (i + 1)).y]) ∧ Below w.heap.size w w' := by
 have ce := zJz T i;generalize crn T i = P at *
 generalize crn T (i + 1) = Q at *
 go_enter Tryz.func99, Tryz.ntmps99
 go_wp2_with fail;refine zA1 fun W1 hW => ?_;obtain ⟨Bt, Br, hw⟩ := N2 hW;clear hW;refine (ce _).mono ?_;rintro e w2 ⟨rfl, hb⟩;obtain ⟨Bt, Br, hw, -⟩ := X2 Bt Br hw hb;clear hb;obtain ⟨xt, yt, zt, vt⟩ := Bt.f;obtain ⟨xr, yr, zr, vr⟩ := Br.f;go_wp2_with fail;refine bodyPost_ret (v := .agg #[.int .i64 P.x, .int .i64 P.y, .int .i64 Q.x, .int .i64 Q.y]) (by simp [results, Tryz.results99, go_sem, xr, zr, zt]) rfl ⟨rfl, by have hl := hw.size; go_grown⟩
theorem zGw (mb b : Nat) (E : List ((Pt × Pt) × Tri3)) (p q : Pt) (T : Tri3) (hg : getE E (p, q) = some T) (hk : okW (p, q)) (w : World) (Bm : Box w mb [.map (some b)] 98) (Hm : HoldsMap eW eT okW w b E) :
    Calls Tryz.prog 36 #[.pointer (some ⟨mb, 0, none⟩), .agg #[.int .i64 p.x, .int .i64 p.y], .agg #[.int .i64 q.x, .int .i64 q.y]] w fun e w' => e = .returned (.tuple #[.agg #[.int .i64 T.A.x, .int .i64 T.A.y, .int .i64 T.B.x, .int .i64 T.B.y, .int .i64 T.C.x, .int .i64 T.C.y], .bool true]) ∧ Below w.heap.size w w' := by
 go_enter Tryz.func36, Tryz.ntmps36
 go_wp2_with fail;refine zA2 fun W1 hW => ?_;obtain ⟨Bp, Bq, Br, hw⟩ := N3 hW;clear hW;have BM : Box W1 (mb) [.map (some b)] 98 := Bm.ee hw;have hl : ∀ d os, (Instr.lookup 96 (.map (some b)) (.agg #[.int .i64 p.x, .int .i64 p.y, .int .i64 q.x, .int .i64 q.y]) true).run Tryz.prog (grow (redrawn W1 d) os) = .ok (.tuple #[.agg #[.int .i64 T.A.x, .int .i64 T.A.y, .int .i64 T.B.x, .int .i64 T.B.y, .int .i64 T.C.x, .int .i64 T.C.y], .bool true]) (grow (redrawn W1 d) os) := fun d os => ((Hm.ee hw).ext (below_regrown W1 d os) rfl).look_some kvM zAp hk hg;clear hg;have g_pqrM := J4 Bp.cells Bq.cells Br.cells BM.cells;refine zA3 11 8 22 [.int .i64 T.A.x, .int .i64 T.A.y, .int .i64 T.B.x, .int .i64 T.B.y, .int .i64 T.C.x, .int .i64 T.C.y] (zs := [.int .i64 0, .int .i64 0, .int .i64 0, .int .i64 0, .int .i64 0, .int .i64 0]) (eff := eff6 (.int .i64 T.A.x) (.int .i64 T.A.y) (.int .i64 T.B.x) (.int .i64 T.B.y) (.int .i64 T.C.x) (.int .i64 T.C.y)) zAc rfl rfl rfl rfl rfl rfl rfl (by simp) (fun ρ W => by simp [execOp, go_sem]; rfl) (by kernel_rfl) (by as_aux_lemma => kernel_rfl) (C := fun w' => ∃ p : Regrown, w' = grow (redrawn W1 p.d) p.os) rgB ?_ (fun ρ W b e1 e2 hB => by obtain ⟨x, y, _, _⟩ := hB.f; simp [execOp, go_sem, e1, e2, x, y, eff6]);simp only [tK1, tK0, dP1, dP0];repeat (first | (refine zA0 (Eq.refl false) ?_; simp only [Act.put, sT2, sT1, sT0]) | (refine rWalk_step (fun K hK => ?_); go_simp; refine hK _ ?_; clear hK K))
 refine rWalk_nil ⟨rfl, ?_⟩;intro w2 bks hb h1b h2b Bs;have lps := Bp.lt;have lqs := Bq.lt;have lrs := Br.lt;have lMs := BM.lt;have hw0z := hw.size;clear g_pqrM;obtain ⟨Bp, Bq, Br, BM, hw, -⟩ := X4 Bp Bq Br BM hw hb;have fs := h1b;have hwz : w.heap.size ≤ W1.heap.size := hw0z;clear hb h1b h2b hw0z;simp only [Act.put];clear hl;obtain ⟨xp, yp, zp, vp⟩ := Bp.f;obtain ⟨xq, yq, zq, vq⟩ := Bq.f;obtain ⟨xr, yr, zr, vr⟩ := Br.f;obtain ⟨xM, yM, zM, vM⟩ := BM.f;obtain ⟨xs, ys, zs, vs⟩ := Bs.f;go_wp2_with fail;refine bodyPost_ret (v := .tuple #[.agg #[.int .i64 T.A.x, .int .i64 T.A.y, .int .i64 T.B.x, .int .i64 T.B.y, .int .i64 T.C.x, .int .i64 T.C.y], .bool true]) (by simp [results, Tryz.results36, go_sem, xr]) rfl ⟨rfl, by have hl := hw.size; go_grown⟩
theorem zKa (mb b : Nat) (E : List ((Pt × Pt) × Tri3)) (p q : Pt) (hg : getE E (p, q) = none) (hk : okW (p, q)) (w : World) (Bm : Box w mb [.map (some b)] 98) (Hm : HoldsMap eW eT okW w b E) :
    Calls Tryz.prog 36 #[.pointer (some ⟨mb, 0, none⟩), .agg #[.int .i64 p.x, .int .i64 p.y], .agg #[.int .i64 q.x, .int .i64 q.y]] w fun e w' => e = .returned (.tuple #[.agg #[.int .i64 0, .int .i64 0, .int .i64 0, .int .i64 0, .int .i64 0, .int .i64 0], .bool false]) ∧ Below w.heap.size w w' := by
 go_enter Tryz.func36, Tryz.ntmps36
 go_wp2_with fail;refine zA2 fun W1 hW => ?_;obtain ⟨Bp, Bq, Br, hw⟩ := N3 hW;clear hW;have BM : Box W1 (mb) [.map (some b)] 98 := Bm.ee hw;have hl : ∀ d os, (Instr.lookup 96 (.map (some b)) (.agg #[.int .i64 p.x, .int .i64 p.y, .int .i64 q.x, .int .i64 q.y]) true).run Tryz.prog (grow (redrawn W1 d) os) = .ok (.tuple #[.agg #[.int .i64 0, .int .i64 0, .int .i64 0, .int .i64 0, .int .i64 0, .int .i64 0], .bool false]) (grow (redrawn W1 d) os) := fun d os => ((Hm.ee hw).ext (below_regrown W1 d os) rfl).look_none kvM zAp hk hg;clear hg;have g_pqrM := J4 Bp.cells Bq.cells Br.cells BM.cells;refine zA3 11 8 22 [.int .i64 0, .int .i64 0, .int .i64 0, .int .i64 0, .int .i64 0, .int .i64 0] (zs := [.int .i64 0, .int .i64 0, .int .i64 0, .int .i64 0, .int .i64 0, .int .i64 0]) (eff := eff6 (.int .i64 0) (.int .i64 0) (.int .i64 0) (.int .i64 0) (.int .i64 0) (.int .i64 0)) zAc rfl rfl rfl rfl rfl rfl rfl (by simp) (fun ρ W => by simp [execOp, go_sem]; rfl) (by kernel_rfl) (by as_aux_lemma => kernel_rfl) (C := fun w' => ∃ p : Regrown, w' = grow (redrawn W1 p.d) p.os) rgB ?_ (fun ρ W b e1 e2 hB => by obtain ⟨x, y, _, _⟩ := hB.f; simp [execOp, go_sem, e1, e2, x, y, eff6]);simp only [tK1, tK0, dP1, dP0];repeat (first | (refine zA0 (Eq.refl false) ?_; simp only [Act.put, sT2, sT1, sT0]) | (refine rWalk_step (fun K hK => ?_); go_simp; refine hK _ ?_; clear hK K))
 refine rWalk_nil ⟨rfl, ?_⟩;intro w2 bks hb h1b h2b Bs;have lps := Bp.lt;have lqs := Bq.lt;have lrs := Br.lt;have lMs := BM.lt;have hw0z := hw.size;clear g_pqrM;obtain ⟨Bp, Bq, Br, BM, hw, -⟩ := X4 Bp Bq Br BM hw hb;have fs := h1b;have hwz : w.heap.size ≤ W1.heap.size := hw0z;clear hb h1b h2b hw0z;simp only [Act.put];clear hl;obtain ⟨xp, yp, zp, vp⟩ := Bp.f;obtain ⟨xq, yq, zq, vq⟩ := Bq.f;obtain ⟨xr, yr, zr, vr⟩ := Br.f;obtain ⟨xM, yM, zM, vM⟩ := BM.f;obtain ⟨xs, ys, zs, vs⟩ := Bs.f;go_wp2_with fail;refine bodyPost_ret (v := .tuple #[.agg #[.int .i64 0, .int .i64 0, .int .i64 0, .int .i64 0, .int .i64 0, .int .i64 0], .bool false]) (by simp [results, Tryz.results36, go_sem, xr]) rfl ⟨rfl, by have hl := hw.size; go_grown⟩
theorem zJq (mb b : Nat) (E : List ((Pt × Pt) × Tri3)) (p q : Pt) (hk : okW (p, q)) (w : World) (Bm : Box w mb [.map (some b)] 98) (Hm : HoldsMap eW eT okW w b E) :
    Calls Tryz.prog 36 #[.pointer (some ⟨mb, 0, none⟩), .agg #[.int .i64 p.x, .int .i64 p.y], .agg #[.int .i64 q.x, .int .i64 q.y]] w fun e w' => e = .returned (.tuple #[eT (lftE E p q).1, .bool (lftE E p q).2]) ∧ Below w.heap.size w w' := by
 cases h : getE E (p, q) with
 | none => rw [zBr h]; exact zKa mb b E p q h hk w Bm Hm
 | some t => rw [zAn h]; exact zGw mb b E p q t h hk w Bm Hm
def hasE (E : List ((Pt × Pt) × Tri3)) (T : Tri3) : Bool := match getE E (T.A, T.B) with | some s => teq s T | none => false
def fitsE (E : List ((Pt × Pt) × Tri3)) (T : Tri3) : Bool := (getE E (T.A, T.B)).isNone && ((getE E (T.B, T.C)).isNone && ((getE E (T.C, T.A)).isNone && valT T))
theorem okT_w {T : Tri3} (h : okT T) : okW (T.A, T.B) ∧ okW (T.B, T.C) ∧ okW (T.C, T.A) := ⟨⟨h.1, h.2.1⟩, ⟨h.2.1, h.2.2⟩, ⟨h.2.2, h.1⟩⟩
theorem way_0 (T : Tri3) (w : World) : Calls Tryz.prog 99 #[.agg #[.int .i64 T.A.x, .int .i64 T.A.y, .int .i64 T.B.x, .int .i64 T.B.y, .int .i64 T.C.x, .int .i64 T.C.y], .int .i64 0] w fun e w' => e = .returned (.agg #[.int .i64 T.A.x, .int .i64 T.A.y, .int .i64 T.B.x, .int .i64 T.B.y]) ∧ Below w.heap.size w w' := zJ7 T 0 w
theorem way_1 (T : Tri3) (w : World) : Calls Tryz.prog 99 #[.agg #[.int .i64 T.A.x, .int .i64 T.A.y, .int .i64 T.B.x, .int .i64 T.B.y, .int .i64 T.C.x, .int .i64 T.C.y], .int .i64 1] w fun e w' => e = .returned (.agg #[.int .i64 T.B.x, .int .i64 T.B.y, .int .i64 T.C.x, .int .i64 T.C.y]) ∧ Below w.heap.size w w' := zJ7 T 1 w
theorem way_2 (T : Tri3) (w : World) : Calls Tryz.prog 99 #[.agg #[.int .i64 T.A.x, .int .i64 T.A.y, .int .i64 T.B.x, .int .i64 T.B.y, .int .i64 T.C.x, .int .i64 T.C.y], .int .i64 2] w fun e w' => e = .returned (.agg #[.int .i64 T.C.x, .int .i64 T.C.y, .int .i64 T.A.x, .int .i64 T.A.y]) ∧ Below w.heap.size w w' := zJ7 T 2 w
theorem mhas_1 (mb b : Nat) (E : List ((Pt × Pt) × Tri3)) (T : Tri3) (S : Tri3) (hg : getE E (T.A, T.B) = some S) (hk : okT T) (w : World) (Bm : Box w mb [.map (some b)] 98) (Hm : HoldsMap eW eT okW w b E) :
    Calls Tryz.prog 45 #[.pointer (some ⟨mb, 0, none⟩), .agg #[.int .i64 T.A.x, .int .i64 T.A.y, .int .i64 T.B.x, .int .i64 T.B.y, .int .i64 T.C.x, .int .i64 T.C.y]] w fun e w' => e = .returned (.bool (teq S T)) ∧ Below w.heap.size w w' := by
 go_enter Tryz.func45, Tryz.ntmps45
 go_wp2_with fail;refine zA1 fun W1 hW => ?_;obtain ⟨Bt, hw⟩ := N1 hW;clear hW;refine (zGw mb b E T.A T.B S hg (okT_w hk).1 _ (Bm.ee hw) (Hm.ee hw)).mono ?_;rintro e w2 ⟨rfl, hb⟩;obtain ⟨Bt, hw, -⟩ := X1 Bt hw hb;clear hb;clear hg hk;have Ft := Bt.f;go_wp2
 go_ret
 exact ⟨rfl, by have hl := hw.size; go_grown⟩
theorem mhas_0 (mb b : Nat) (E : List ((Pt × Pt) × Tri3)) (T : Tri3) (hg : getE E (T.A, T.B) = none) (hk : okT T) (w : World) (Bm : Box w mb [.map (some b)] 98) (Hm : HoldsMap eW eT okW w b E) :
    Calls Tryz.prog 45 #[.pointer (some ⟨mb, 0, none⟩), .agg #[.int .i64 T.A.x, .int .i64 T.A.y, .int .i64 T.B.x, .int .i64 T.B.y, .int .i64 T.C.x, .int .i64 T.C.y]] w fun e w' => e = .returned (.bool false) ∧ Below w.heap.size w w' := by
 go_enter Tryz.func45, Tryz.ntmps45
 go_wp2_with fail;refine zA1 fun W1 hW => ?_;obtain ⟨Bt, hw⟩ := N1 hW;clear hW;refine (zKa mb b E T.A T.B hg (okT_w hk).1 _ (Bm.ee hw) (Hm.ee hw)).mono ?_;rintro e w2 ⟨rfl, hb⟩;obtain ⟨Bt, hw, -⟩ := X1 Bt hw hb;clear hb;clear hg hk;have Ft := Bt.f;go_wp2
 go_ret
 exact ⟨rfl, by have hl := hw.size; go_grown⟩
theorem zFd (mb b : Nat) (E : List ((Pt × Pt) × Tri3)) (T : Tri3) (hk : okT T) (w : World) (Bm : Box w mb [.map (some b)] 98) (Hm : HoldsMap eW eT okW w b E) :
    Calls Tryz.prog 45 #[.pointer (some ⟨mb, 0, none⟩), .agg #[.int .i64 T.A.x, .int .i64 T.A.y, .int .i64 T.B.x, .int .i64 T.B.y, .int .i64 T.C.x, .int .i64 T.C.y]] w fun e w' => e = .returned (.bool (hasE E T)) ∧ Below w.heap.size w w' := by
 cases h : getE E (T.A, T.B) with
 | none => rw [show hasE E T = false by unfold hasE; rw [h]]; exact mhas_0 mb b E T h hk w Bm Hm
 | some S => rw [show hasE E T = teq S T by unfold hasE; rw [h]]; exact mhas_1 mb b E T S h hk w Bm Hm
theorem fits_0 (mb b : Nat) (E : List ((Pt × Pt) × Tri3)) (T : Tri3) (S : Tri3) (hg0 : getE E (T.A, T.B) = some S) (hk : okT T) (w : World) (Bm : Box w mb [.map (some b)] 98) (Hm : HoldsMap eW eT okW w b E) :
    Calls Tryz.prog 98 #[.pointer (some ⟨mb, 0, none⟩), .agg #[.int .i64 T.A.x, .int .i64 T.A.y, .int .i64 T.B.x, .int .i64 T.B.y, .int .i64 T.C.x, .int .i64 T.C.y]] w fun e w' => e = .returned (.bool false) ∧ Below w.heap.size w w' := by
 go_enter Tryz.func98, Tryz.ntmps98
 go_wp2_with fail;refine zA2 fun W1 hW => ?_;obtain ⟨Bt, hw⟩ := N1 hW;clear hW;have BM : Box W1 (mb) [.map (some b)] 98 := Bm.ee hw;refine wp_loop_rounds 5 ?_;try rw [rounds_succ]
 have Ft := Bt.f;have FM := BM.f;go_wp2_with fail;have hl : ∀ d os, (Instr.lookup 96 (.map (some b)) (.agg #[.int .i64 T.A.x, .int .i64 T.A.y, .int .i64 T.B.x, .int .i64 T.B.y]) true).run Tryz.prog (grow (redrawn W1 d) os) = .ok (.tuple #[.agg #[.int .i64 S.A.x, .int .i64 S.A.y, .int .i64 S.B.x, .int .i64 S.B.y, .int .i64 S.C.x, .int .i64 S.C.y], .bool true]) (grow (redrawn W1 d) os) := fun d os => ((Hm.ee hw).ext (below_regrown W1 d os) rfl).look_some kvM zAp (okT_w hk).1 hg0;clear hg0;have g_tM := J2 Bt.cells BM.cells;refine zA3 11 6 20 [.int .i64 S.A.x, .int .i64 S.A.y, .int .i64 S.B.x, .int .i64 S.B.y, .int .i64 S.C.x, .int .i64 S.C.y] (zs := [.int .i64 0, .int .i64 0, .int .i64 0, .int .i64 0, .int .i64 0, .int .i64 0]) (eff := eff6 (.int .i64 S.A.x) (.int .i64 S.A.y) (.int .i64 S.B.x) (.int .i64 S.B.y) (.int .i64 S.C.x) (.int .i64 S.C.y)) zAc rfl rfl rfl rfl rfl rfl rfl (by simp) (fun ρ W => by simp [execOp, go_sem]; rfl) (by kernel_rfl) (by as_aux_lemma => kernel_rfl) (C := fun w' => ∃ p : Regrown, w' = grow (redrawn W1 p.d) p.os) rgB ?_ (fun ρ W b e1 e2 hB => by obtain ⟨x, y, _, _⟩ := hB.f; simp [execOp, go_sem, e1, e2, x, y, eff6]);simp only [tK1, tK0, dP1, dP0];repeat (first | (refine zA0 (Eq.refl false) ?_; simp only [Act.put, sT2, sT1, sT0]) | (refine rWalk_step (fun K hK => ?_); go_simp; first | (refine hK _ ?_; clear hK K) | (apply Exists.intro; refine ⟨fun _ => ?_, hK _ ?_⟩; (first | with_reducible exact toExt (way_0 T) _); clear hK K)))
 refine rWalk_nil ⟨rfl, ?_⟩;intro w2 bks0 hb h1b h2b Bs0;have lts0 := Bt.lt;have lMs0 := BM.lt;have hw0z := hw.size;clear g_tM;clear Ft FM;obtain ⟨Bt, BM, hw, -⟩ := X2 Bt BM hw hb;have fs0 := h1b;have hwz : w.heap.size ≤ W1.heap.size := hw0z;clear hb h1b h2b hw0z;simp only [Act.put];clear hl;have Ft := Bt.f;have FM := BM.f;have Fs0 := Bs0.f;go_wp2
 go_ret
 exact ⟨rfl, hw⟩
theorem fits_1 (mb b : Nat) (E : List ((Pt × Pt) × Tri3)) (T : Tri3) (S : Tri3) (hg0 : getE E (T.A, T.B) = none) (hg1 : getE E (T.B, T.C) = some S) (hk : okT T) (w : World) (Bm : Box w mb [.map (some b)] 98) (Hm : HoldsMap eW eT okW w b E) :
    Calls Tryz.prog 98 #[.pointer (some ⟨mb, 0, none⟩), .agg #[.int .i64 T.A.x, .int .i64 T.A.y, .int .i64 T.B.x, .int .i64 T.B.y, .int .i64 T.C.x, .int .i64 T.C.y]] w fun e w' => e = .returned (.bool false) ∧ Below w.heap.size w w' := by
 go_enter Tryz.func98, Tryz.ntmps98
 go_wp2_with fail;refine zA2 fun W1 hW => ?_;obtain ⟨Bt, hw⟩ := N1 hW;clear hW;have BM : Box W1 (mb) [.map (some b)] 98 := Bm.ee hw;refine wp_loop_rounds 5 ?_;try rw [rounds_succ]
 have Ft := Bt.f;have FM := BM.f;go_wp2_with fail;have hl : ∀ d os, (Instr.lookup 96 (.map (some b)) (.agg #[.int .i64 T.A.x, .int .i64 T.A.y, .int .i64 T.B.x, .int .i64 T.B.y]) true).run Tryz.prog (grow (redrawn W1 d) os) = .ok (.tuple #[.agg #[.int .i64 0, .int .i64 0, .int .i64 0, .int .i64 0, .int .i64 0, .int .i64 0], .bool false]) (grow (redrawn W1 d) os) := fun d os => ((Hm.ee hw).ext (below_regrown W1 d os) rfl).look_none kvM zAp (okT_w hk).1 hg0;clear hg0;have gt := Bt.cells;have gM := BM.cells;refine zA3 11 6 20 [.int .i64 0, .int .i64 0, .int .i64 0, .int .i64 0, .int .i64 0, .int .i64 0] (zs := [.int .i64 0, .int .i64 0, .int .i64 0, .int .i64 0, .int .i64 0, .int .i64 0]) (eff := eff6 (.int .i64 0) (.int .i64 0) (.int .i64 0) (.int .i64 0) (.int .i64 0) (.int .i64 0)) zAc rfl rfl rfl rfl rfl rfl rfl (by simp) (fun ρ W => by simp [execOp, go_sem]; rfl) (by kernel_rfl) (by as_aux_lemma => kernel_rfl) (C := fun w' => ∃ p : Regrown, w' = grow (redrawn W1 p.d) p.os) rgB ?_ (fun ρ W b e1 e2 hB => by obtain ⟨x, y, _, _⟩ := hB.f; simp [execOp, go_sem, e1, e2, x, y, eff6]);simp only [tK1, tK0, dP1, dP0];repeat (first | (refine zA0 (Eq.refl false) ?_; simp only [Act.put, sT2, sT1, sT0]) | (refine rWalk_step (fun K hK => ?_); go_simp; first | (refine hK _ ?_; clear hK K) | (apply Exists.intro; refine ⟨fun _ => ?_, hK _ ?_⟩; (first | with_reducible exact toExt (way_0 T) _); clear hK K)))
 refine rWalk_nil ⟨rfl, ?_⟩;intro w2 bks0 hb h1b h2b Bs0;have lts0 := Bt.lt;have lMs0 := BM.lt;have hw0z := hw.size;clear gt gM;clear Ft FM;obtain ⟨Bt, BM, hw, -⟩ := X2 Bt BM hw hb;have fs0 := h1b;have hwz : w.heap.size ≤ W1.heap.size := hw0z;clear hb h1b h2b hw0z;simp only [Act.put];clear hl;have Ft := Bt.f;have FM := BM.f;have Fs0 := Bs0.f;go_wp2_with fail;clear Ft FM Fs0;try rw [rounds_succ]
 have Ft := Bt.f;have FM := BM.f;have Fs0 := Bs0.f;go_wp2_with fail;refine zA2 fun W3 hW => ?_;subst hW;clear Ft FM Fs0;have hl : ∀ d os, (Instr.lookup 96 (.map (some b)) (.agg #[.int .i64 T.B.x, .int .i64 T.B.y, .int .i64 T.C.x, .int .i64 T.C.y]) true).run Tryz.prog (grow (redrawn W3 d) os) = .ok (.tuple #[.agg #[.int .i64 S.A.x, .int .i64 S.A.y, .int .i64 S.B.x, .int .i64 S.B.y, .int .i64 S.C.x, .int .i64 S.C.y], .bool true]) (grow (redrawn W3 d) os) := fun d os => ((Hm.ee hw).ext (below_regrown W3 d os) rfl).look_some kvM zAp (okT_w hk).2.1 hg1;clear hg1;have gt := Bt.cells;have gM := BM.cells;have gs0 := Bs0.cells;refine zA3 11 6 20 [.int .i64 S.A.x, .int .i64 S.A.y, .int .i64 S.B.x, .int .i64 S.B.y, .int .i64 S.C.x, .int .i64 S.C.y] (zs := [.int .i64 0, .int .i64 0, .int .i64 0, .int .i64 0, .int .i64 0, .int .i64 0]) (eff := eff6 (.int .i64 S.A.x) (.int .i64 S.A.y) (.int .i64 S.B.x) (.int .i64 S.B.y) (.int .i64 S.C.x) (.int .i64 S.C.y)) zAc rfl rfl rfl rfl rfl rfl rfl (by simp) (fun ρ W => by simp [execOp, go_sem]; rfl) (by kernel_rfl) (by as_aux_lemma => kernel_rfl) (C := fun w' => ∃ p : Regrown, w' = grow (redrawn W3 p.d) p.os) rgB ?_ (fun ρ W b e1 e2 hB => by obtain ⟨x, y, _, _⟩ := hB.f; simp [execOp, go_sem, e1, e2, x, y, eff6]);simp only [tK1, tK0, dP1, dP0];repeat (first | (refine zA0 (Eq.refl false) ?_; simp only [Act.put, sT2, sT1, sT0]) | (refine rWalk_step (fun K hK => ?_); go_simp; first | (refine hK _ ?_; clear hK K) | (apply Exists.intro; refine ⟨fun _ => ?_, hK _ ?_⟩; (first | with_reducible exact toExt (way_1 T) _); clear hK K)))
 refine rWalk_nil ⟨rfl, ?_⟩;intro w4 bks1 hb h1b h2b Bs1;have lts1 := Bt.lt;have lMs1 := BM.lt;have ls0s1 := Bs0.lt;have hw0z := hw.size;clear gt gM gs0;obtain ⟨Bt, BM, Bs0, hw, -⟩ := X3 Bt BM Bs0 hw hb;have fs1 := h1b;have hwz : w.heap.size ≤ W3.heap.size := hw0z;clear hb h1b h2b hw0z;simp only [Act.put];clear hl;have Ft := Bt.f;have FM := BM.f;have Fs0 := Bs0.f;have Fs1 := Bs1.f;go_wp2
 go_ret
 exact ⟨rfl, hw⟩
theorem fits_2 (mb b : Nat) (E : List ((Pt × Pt) × Tri3)) (T : Tri3) (S : Tri3) (hg0 : getE E (T.A, T.B) = none) (hg1 : getE E (T.B, T.C) = none) (hg2 : getE E (T.C, T.A) = some S) (hk : okT T) (w : World) (Bm : Box w mb [.map (some b)] 98) (Hm : HoldsMap eW eT okW w b E) :
    Calls Tryz.prog 98 #[.pointer (some ⟨mb, 0, none⟩), .agg #[.int .i64 T.A.x, .int .i64 T.A.y, .int .i64 T.B.x, .int .i64 T.B.y, .int .i64 T.C.x, .int .i64 T.C.y]] w fun e w' => e = .returned (.bool false) ∧ Below w.heap.size w w' := by
 go_enter Tryz.func98, Tryz.ntmps98
 go_wp2_with fail;refine zA2 fun W1 hW => ?_;obtain ⟨Bt, hw⟩ := N1 hW;clear hW;have BM : Box W1 (mb) [.map (some b)] 98 := Bm.ee hw;refine wp_loop_rounds 5 ?_;try rw [rounds_succ]
 have Ft := Bt.f;have FM := BM.f;go_wp2_with fail;have hl : ∀ d os, (Instr.lookup 96 (.map (some b)) (.agg #[.int .i64 T.A.x, .int .i64 T.A.y, .int .i64 T.B.x, .int .i64 T.B.y]) true).run Tryz.prog (grow (redrawn W1 d) os) = .ok (.tuple #[.agg #[.int .i64 0, .int .i64 0, .int .i64 0, .int .i64 0, .int .i64 0, .int .i64 0], .bool false]) (grow (redrawn W1 d) os) := fun d os => ((Hm.ee hw).ext (below_regrown W1 d os) rfl).look_none kvM zAp (okT_w hk).1 hg0;clear hg0;have gt := Bt.cells;have gM := BM.cells;refine zA3 11 6 20 [.int .i64 0, .int .i64 0, .int .i64 0, .int .i64 0, .int .i64 0, .int .i64 0] (zs := [.int .i64 0, .int .i64 0, .int .i64 0, .int .i64 0, .int .i64 0, .int .i64 0]) (eff := eff6 (.int .i64 0) (.int .i64 0) (.int .i64 0) (.int .i64 0) (.int .i64 0) (.int .i64 0)) zAc rfl rfl rfl rfl rfl rfl rfl (by simp) (fun ρ W => by simp [execOp, go_sem]; rfl) (by kernel_rfl) (by as_aux_lemma => kernel_rfl) (C := fun w' => ∃ p : Regrown, w' = grow (redrawn W1 p.d) p.os) rgB ?_ (fun ρ W b e1 e2 hB => by obtain ⟨x, y, _, _⟩ := hB.f; simp [execOp, go_sem, e1, e2, x, y, eff6]);simp only [tK1, tK0, dP1, dP0];repeat (first | (refine zA0 (Eq.refl false) ?_; simp only [Act.put, sT2, sT1, sT0]) | (refine rWalk_step (fun K hK => ?_); go_simp; first | (refine hK _ ?_; clear hK K) | (apply Exists.intro; refine ⟨fun _ => ?_, hK _ ?_⟩; (first | with_reducible exact toExt (way_0 T) _); clear hK K)))
 refine rWalk_nil ⟨rfl, ?_⟩;intro w2 bks0 hb h1b h2b Bs0;have lts0 := Bt.lt;have lMs0 := BM.lt;have hw0z := hw.size;clear gt gM;clear Ft FM;obtain ⟨Bt, BM, hw, -⟩ := X2 Bt BM hw hb;have fs0 := h1b;have hwz : w.heap.size ≤ W1.heap.size := hw0z;clear hb h1b h2b hw0z;simp only [Act.put];clear hl;have Ft := Bt.f;have FM := BM.f;have Fs0 := Bs0.f;go_wp2_with fail;clear Ft FM Fs0;try rw [rounds_succ]
 have Ft := Bt.f;have FM := BM.f;have Fs0 := Bs0.f;go_wp2_with fail;refine zA2 fun W3 hW => ?_;subst hW;clear Ft FM Fs0;have hl : ∀ d os, (Instr.lookup 96 (.map (some b)) (.agg #[.int .i64 T.B.x, .int .i64 T.B.y, .int .i64 T.C.x, .int .i64 T.C.y]) true).run Tryz.prog (grow (redrawn W3 d) os) = .ok (.tuple #[.agg #[.int .i64 0, .int .i64 0, .int .i64 0, .int .i64 0, .int .i64 0, .int .i64 0], .bool false]) (grow (redrawn W3 d) os) := fun d os => ((Hm.ee hw).ext (below_regrown W3 d os) rfl).look_none kvM zAp (okT_w hk).2.1 hg1;clear hg1;have gt := Bt.cells;have gM := BM.cells;have gs0 := Bs0.cells;refine zA3 11 6 20 [.int .i64 0, .int .i64 0, .int .i64 0, .int .i64 0, .int .i64 0, .int .i64 0] (zs := [.int .i64 0, .int .i64 0, .int .i64 0, .int .i64 0, .int .i64 0, .int .i64 0]) (eff := eff6 (.int .i64 0) (.int .i64 0) (.int .i64 0) (.int .i64 0) (.int .i64 0) (.int .i64 0)) zAc rfl rfl rfl rfl rfl rfl rfl (by simp) (fun ρ W => by simp [execOp, go_sem]; rfl) (by kernel_rfl) (by as_aux_lemma => kernel_rfl) (C := fun w' => ∃ p : Regrown, w' = grow (redrawn W3 p.d) p.os) rgB ?_ (fun ρ W b e1 e2 hB => by obtain ⟨x, y, _, _⟩ := hB.f; simp [execOp, go_sem, e1, e2, x, y, eff6]);simp only [tK1, tK0, dP1, dP0];repeat (first | (refine zA0 (Eq.refl false) ?_; simp only [Act.put, sT2, sT1, sT0]) | (refine rWalk_step (fun K hK => ?_); go_simp; first | (refine hK _ ?_; clear hK K) | (apply Exists.intro; refine ⟨fun _ => ?_, hK _ ?_⟩; (first | with_reducible exact toExt (way_1 T) _); clear hK K)))
 refine rWalk_nil ⟨rfl, ?_⟩;intro w4 bks1 hb h1b h2b Bs1;have lts1 := Bt.lt;have lMs1 := BM.lt;have ls0s1 := Bs0.lt;have hw0z := hw.size;clear gt gM gs0;obtain ⟨Bt, BM, Bs0, hw, -⟩ := X3 Bt BM Bs0 hw hb;have fs1 := h1b;have hwz : w.heap.size ≤ W3.heap.size := hw0z;clear hb h1b h2b hw0z;simp only [Act.put];clear hl;have Ft := Bt.f;have FM := BM.f;have Fs0 := Bs0.f;have Fs1 := Bs1.f;go_wp2_with fail;clear Ft FM Fs0 Fs1;try rw [rounds_succ]
 have Ft := Bt.f;have FM := BM.f;have Fs0 := Bs0.f;have Fs1 := Bs1.f;go_wp2_with fail;refine zA2 fun W5 hW => ?_;subst hW;clear Ft FM Fs0 Fs1;have hl : ∀ d os, (Instr.lookup 96 (.map (some b)) (.agg #[.int .i64 T.C.x, .int .i64 T.C.y, .int .i64 T.A.x, .int .i64 T.A.y]) true).run Tryz.prog (grow (redrawn W5 d) os) = .ok (.tuple #[.agg #[.int .i64 S.A.x, .int .i64 S.A.y, .int .i64 S.B.x, .int .i64 S.B.y, .int .i64 S.C.x, .int .i64 S.C.y], .bool true]) (grow (redrawn W5 d) os) := fun d os => ((Hm.ee hw).ext (below_regrown W5 d os) rfl).look_some kvM zAp (okT_w hk).2.2 hg2;clear hg2;have gt := Bt.cells;have gM := BM.cells;have gs0 := Bs0.cells;have gs1 := Bs1.cells;refine zA3 11 6 20 [.int .i64 S.A.x, .int .i64 S.A.y, .int .i64 S.B.x, .int .i64 S.B.y, .int .i64 S.C.x, .int .i64 S.C.y] (zs := [.int .i64 0, .int .i64 0, .int .i64 0, .int .i64 0, .int .i64 0, .int .i64 0]) (eff := eff6 (.int .i64 S.A.x) (.int .i64 S.A.y) (.int .i64 S.B.x) (.int .i64 S.B.y) (.int .i64 S.C.x) (.int .i64 S.C.y)) zAc rfl rfl rfl rfl rfl rfl rfl (by simp) (fun ρ W => by simp [execOp, go_sem]; rfl) (by kernel_rfl) (by as_aux_lemma => kernel_rfl) (C := fun w' => ∃ p : Regrown, w' = grow (redrawn W5 p.d) p.os) rgB ?_ (fun ρ W b e1 e2 hB => by obtain ⟨x, y, _, _⟩ := hB.f; simp [execOp, go_sem, e1, e2, x, y, eff6]);simp only [tK1, tK0, dP1, dP0];repeat (first | (refine zA0 (Eq.refl false) ?_; simp only [Act.put, sT2, sT1, sT0]) | (refine rWalk_step (fun K hK => ?_); go_simp; first | (refine hK _ ?_; clear hK K) | (apply Exists.intro; refine ⟨fun _ => ?_, hK _ ?_⟩; (first | with_reducible exact toExt (way_2 T) _); clear hK K)))
 refine rWalk_nil ⟨rfl, ?_⟩;intro w6 bks2 hb h1b h2b Bs2;have lts2 := Bt.lt;have lMs2 := BM.lt;have ls0s2 := Bs0.lt;have ls1s2 := Bs1.lt;have hw0z := hw.size;clear gt gM gs0 gs1;obtain ⟨Bt, BM, Bs0, Bs1, hw, -⟩ := X4 Bt BM Bs0 Bs1 hw hb;have fs2 := h1b;have hwz : w.heap.size ≤ W5.heap.size := hw0z;clear hb h1b h2b hw0z;simp only [Act.put];clear hl;have Ft := Bt.f;have FM := BM.f;have Fs0 := Bs0.f;have Fs1 := Bs1.f;have Fs2 := Bs2.f;go_wp2
 go_ret
 exact ⟨rfl, hw⟩
theorem fits_3 (mb b : Nat) (E : List ((Pt × Pt) × Tri3)) (T : Tri3) (hg0 : getE E (T.A, T.B) = none) (hg1 : getE E (T.B, T.C) = none) (hg2 : getE E (T.C, T.A) = none) (hk : okT T) (w : World) (Bm : Box w mb [.map (some b)] 98) (Hm : HoldsMap eW eT okW w b E) :
    Calls Tryz.prog 98 #[.pointer (some ⟨mb, 0, none⟩), .agg #[.int .i64 T.A.x, .int .i64 T.A.y, .int .i64 T.B.x, .int .i64 T.B.y, .int .i64 T.C.x, .int .i64 T.C.y]] w fun e w' => e = .returned (.bool (valT T)) ∧ Below w.heap.size w w' := by
 have cv := zBc T;generalize valT T = v at *
 go_enter Tryz.func98, Tryz.ntmps98
 go_wp2_with fail;refine zA2 fun W1 hW => ?_;obtain ⟨Bt, hw⟩ := N1 hW;clear hW;have BM : Box W1 (mb) [.map (some b)] 98 := Bm.ee hw;refine wp_loop_rounds 5 ?_;try rw [rounds_succ]
 have Ft := Bt.f;have FM := BM.f;go_wp2_with fail;have hl : ∀ d os, (Instr.lookup 96 (.map (some b)) (.agg #[.int .i64 T.A.x, .int .i64 T.A.y, .int .i64 T.B.x, .int .i64 T.B.y]) true).run Tryz.prog (grow (redrawn W1 d) os) = .ok (.tuple #[.agg #[.int .i64 0, .int .i64 0, .int .i64 0, .int .i64 0, .int .i64 0, .int .i64 0], .bool false]) (grow (redrawn W1 d) os) := fun d os => ((Hm.ee hw).ext (below_regrown W1 d os) rfl).look_none kvM zAp (okT_w hk).1 hg0;clear hg0;have gt := Bt.cells;have gM := BM.cells;refine zA3 11 6 20 [.int .i64 0, .int .i64 0, .int .i64 0, .int .i64 0, .int .i64 0, .int .i64 0] (zs := [.int .i64 0, .int .i64 0, .int .i64 0, .int .i64 0, .int .i64 0, .int .i64 0]) (eff := eff6 (.int .i64 0) (.int .i64 0) (.int .i64 0) (.int .i64 0) (.int .i64 0) (.int .i64 0)) zAc rfl rfl rfl rfl rfl rfl rfl (by simp) (fun ρ W => by simp [execOp, go_sem]; rfl) (by kernel_rfl) (by as_aux_lemma => kernel_rfl) (C := fun w' => ∃ p : Regrown, w' = grow (redrawn W1 p.d) p.os) rgB ?_ (fun ρ W b e1 e2 hB => by obtain ⟨x, y, _, _⟩ := hB.f; simp [execOp, go_sem, e1, e2, x, y, eff6]);simp only [tK1, tK0, dP1, dP0];repeat (first | (refine zA0 (Eq.refl false) ?_; simp only [Act.put, sT2, sT1, sT0]) | (refine rWalk_step (fun K hK => ?_); go_simp; first | (refine hK _ ?_; clear hK K) | (apply Exists.intro; refine ⟨fun _ => ?_, hK _ ?_⟩; (first | with_reducible exact toExt (way_0 T) _); clear hK K)))
 refine rWalk_nil ⟨rfl, ?_⟩;intro w2 bks0 hb h1b h2b Bs0;have lts0 := Bt.lt;have lMs0 := BM.lt;have hw0z := hw.size;clear gt gM;clear Ft FM;obtain ⟨Bt, BM, hw, -⟩ := X2 Bt BM hw hb;have fs0 := h1b;have hwz : w.heap.size ≤ W1.heap.size := hw0z;clear hb h1b h2b hw0z;simp only [Act.put];clear hl;have Ft := Bt.f;have FM := BM.f;have Fs0 := Bs0.f;go_wp2_with fail;clear Ft FM Fs0;try rw [rounds_succ]
 have Ft := Bt.f;have FM := BM.f;have Fs0 := Bs0.f;go_wp2_with fail;refine zA2 fun W3 hW => ?_;subst hW;clear Ft FM Fs0;have hl : ∀ d os, (Instr.lookup 96 (.map (some b)) (.agg #[.int .i64 T.B.x, .int .i64 T.B.y, .int .i64 T.C.x, .int .i64 T.C.y]) true).run Tryz.prog (grow (redrawn W3 d) os) = .ok (.tuple #[.agg #[.int .i64 0, .int .i64 0, .int .i64 0, .int .i64 0, .int .i64 0, .int .i64 0], .bool false]) (grow (redrawn W3 d) os) := fun d os => ((Hm.ee hw).ext (below_regrown W3 d os) rfl).look_none kvM zAp (okT_w hk).2.1 hg1;clear hg1;have gt := Bt.cells;have gM := BM.cells;have gs0 := Bs0.cells;refine zA3 11 6 20 [.int .i64 0, .int .i64 0, .int .i64 0, .int .i64 0, .int .i64 0, .int .i64 0] (zs := [.int .i64 0, .int .i64 0, .int .i64 0, .int .i64 0, .int .i64 0, .int .i64 0]) (eff := eff6 (.int .i64 0) (.int .i64 0) (.int .i64 0) (.int .i64 0) (.int .i64 0) (.int .i64 0)) zAc rfl rfl rfl rfl rfl rfl rfl (by simp) (fun ρ W => by simp [execOp, go_sem]; rfl) (by kernel_rfl) (by as_aux_lemma => kernel_rfl) (C := fun w' => ∃ p : Regrown, w' = grow (redrawn W3 p.d) p.os) rgB ?_ (fun ρ W b e1 e2 hB => by obtain ⟨x, y, _, _⟩ := hB.f; simp [execOp, go_sem, e1, e2, x, y, eff6]);simp only [tK1, tK0, dP1, dP0];repeat (first | (refine zA0 (Eq.refl false) ?_; simp only [Act.put, sT2, sT1, sT0]) | (refine rWalk_step (fun K hK => ?_); go_simp; first | (refine hK _ ?_; clear hK K) | (apply Exists.intro; refine ⟨fun _ => ?_, hK _ ?_⟩; (first | with_reducible exact toExt (way_1 T) _); clear hK K)))
 refine rWalk_nil ⟨rfl, ?_⟩;intro w4 bks1 hb h1b h2b Bs1;have lts1 := Bt.lt;have lMs1 := BM.lt;have ls0s1 := Bs0.lt;have hw0z := hw.size;clear gt gM gs0;obtain ⟨Bt, BM, Bs0, hw, -⟩ := X3 Bt BM Bs0 hw hb;have fs1 := h1b;have hwz : w.heap.size ≤ W3.heap.size := hw0z;clear hb h1b h2b hw0z;simp only [Act.put];clear hl;have Ft := Bt.f;have FM := BM.f;have Fs0 := Bs0.f;have Fs1 := Bs1.f;go_wp2_with fail;clear Ft FM Fs0 Fs1;try rw [rounds_succ]
 have Ft := Bt.f;have FM := BM.f;have Fs0 := Bs0.f;have Fs1 := Bs1.f;go_wp2_with fail;refine zA2 fun W5 hW => ?_;subst hW;clear Ft FM Fs0 Fs1;have hl : ∀ d os, (Instr.lookup 96 (.map (some b)) (.agg #[.int .i64 T.C.x, .int .i64 T.C.y, .int .i64 T.A.x, .int .i64 T.A.y]) true).run Tryz.prog (grow (redrawn W5 d) os) = .ok (.tuple #[.agg #[.int .i64 0, .int .i64 0, .int .i64 0, .int .i64 0, .int .i64 0, .int .i64 0], .bool false]) (grow (redrawn W5 d) os) := fun d os => ((Hm.ee hw).ext (below_regrown W5 d os) rfl).look_none kvM zAp (okT_w hk).2.2 hg2;clear hg2;have gt := Bt.cells;have gM := BM.cells;have gs0 := Bs0.cells;have gs1 := Bs1.cells;refine zA3 11 6 20 [.int .i64 0, .int .i64 0, .int .i64 0, .int .i64 0, .int .i64 0, .int .i64 0] (zs := [.int .i64 0, .int .i64 0, .int .i64 0, .int .i64 0, .int .i64 0, .int .i64 0]) (eff := eff6 (.int .i64 0) (.int .i64 0) (.int .i64 0) (.int .i64 0) (.int .i64 0) (.int .i64 0)) zAc rfl rfl rfl rfl rfl rfl rfl (by simp) (fun ρ W => by simp [execOp, go_sem]; rfl) (by kernel_rfl) (by as_aux_lemma => kernel_rfl) (C := fun w' => ∃ p : Regrown, w' = grow (redrawn W5 p.d) p.os) rgB ?_ (fun ρ W b e1 e2 hB => by obtain ⟨x, y, _, _⟩ := hB.f; simp [execOp, go_sem, e1, e2, x, y, eff6]);simp only [tK1, tK0, dP1, dP0];repeat (first | (refine zA0 (Eq.refl false) ?_; simp only [Act.put, sT2, sT1, sT0]) | (refine rWalk_step (fun K hK => ?_); go_simp; first | (refine hK _ ?_; clear hK K) | (apply Exists.intro; refine ⟨fun _ => ?_, hK _ ?_⟩; (first | with_reducible exact toExt (way_2 T) _); clear hK K)))
 refine rWalk_nil ⟨rfl, ?_⟩;intro w6 bks2 hb h1b h2b Bs2;have lts2 := Bt.lt;have lMs2 := BM.lt;have ls0s2 := Bs0.lt;have ls1s2 := Bs1.lt;have hw0z := hw.size;clear gt gM gs0 gs1;obtain ⟨Bt, BM, Bs0, Bs1, hw, -⟩ := X4 Bt BM Bs0 Bs1 hw hb;have fs2 := h1b;have hwz : w.heap.size ≤ W5.heap.size := hw0z;clear hb h1b h2b hw0z;simp only [Act.put];clear hl;have Ft := Bt.f;have FM := BM.f;have Fs0 := Bs0.f;have Fs1 := Bs1.f;have Fs2 := Bs2.f;go_wp2_with fail;clear Ft FM Fs0 Fs1 Fs2;try rw [rounds_succ]
 have Ft := Bt.f;have FM := BM.f;have Fs0 := Bs0.f;have Fs1 := Bs1.f;have Fs2 := Bs2.f;go_wp2_with fail;refine (cv _).mono ?_;rintro e w9 ⟨rfl, hb⟩;replace hw := upB hw hb;clear Ft FM Fs0 Fs1 Fs2;clear hb;go_wp2
 go_ret
 exact ⟨rfl, hw⟩
theorem fits_any (mb b : Nat) (E : List ((Pt × Pt) × Tri3)) (T : Tri3) (hk : okT T) (w : World) (Bm : Box w mb [.map (some b)] 98) (Hm : HoldsMap eW eT okW w b E) :
    Calls Tryz.prog 98 #[.pointer (some ⟨mb, 0, none⟩), .agg #[.int .i64 T.A.x, .int .i64 T.A.y, .int .i64 T.B.x, .int .i64 T.B.y, .int .i64 T.C.x, .int .i64 T.C.y]] w fun e w' => e = .returned (.bool (Option.isNone (getE E (T.A, T.B)) && (Option.isNone (getE E (T.B, T.C)) && (Option.isNone (getE E (T.C, T.A)) && valT T)))) ∧ Below w.heap.size w w' := by
 cases h0 : getE E (T.A, T.B) with
 | some S => exact fits_0 mb b E T S h0 hk w Bm Hm
 | none =>
  cases h1 : getE E (T.B, T.C) with
  | some S => exact fits_1 mb b E T S h0 h1 hk w Bm Hm
  | none =>
   cases h2 : getE E (T.C, T.A) with
   | some S => exact fits_2 mb b E T S h0 h1 h2 hk w Bm Hm
   | none => exact fits_3 mb b E T h0 h1 h2 hk w Bm Hm
theorem zIt (mb b : Nat) (E : List ((Pt × Pt) × Tri3)) (T : Tri3) (hk : okT T) (w : World) (Bm : Box w mb [.map (some b)] 98) (Hm : HoldsMap eW eT okW w b E) :
    Calls Tryz.prog 98 #[.pointer (some ⟨mb, 0, none⟩), .agg #[.int .i64 T.A.x, .int .i64 T.A.y, .int .i64 T.B.x, .int .i64 T.B.y, .int .i64 T.C.x, .int .i64 T.C.y]] w fun e w' => e = .returned (.bool (fitsE E T)) ∧ Below w.heap.size w w' := fits_any mb b E T hk w Bm Hm
end Go.Proofs.YtjkfakaehjmnbaaGreat
namespace Go.Proofs.YtjkfakaehjmnbaaGreat
open Go.RowKit Go.Sort
theorem zA7 {w w' : World} (h : Below w.heap.size w w') (row : Option Nat) : w.grownBy w' row := ⟨h.os, h.tape, h.output, h.size, fun i hi _ => h.block i hi⟩
theorem zCk {w w' : World} (h : w.grownBy w' none) : Below w.heap.size w w' := ⟨h.os, h.tape, h.output, h.size, fun i hi => h.block i hi (by simp)⟩
theorem zAi {B : Nat} {w w' w2 : World} {b : Nat} (h : Below B w w') (hg : w'.grownBy w2 (some b)) (hB : B ≤ w'.heap.size) (hb : B ≤ b) : Below B w w2 :=
 ⟨hg.os.trans h.os, hg.tape.trans h.tape, hg.output.trans h.output, Nat.le_trans h.size hg.size, fun i hi => (hg.block i (by omega) (fun e => by cases e; omega)).trans (h.block i hi)⟩
theorem zA9 {a b c : World} {r : Nat} (h : a.grownBy b (some r)) (k : b.grownBy c (some r)) : a.grownBy c (some r) := h.andThen k (fun _ hj => .inr hj)
theorem zAb {a b c : World} {r : Nat} (h : a.grownBy b (some r)) (k : Below b.heap.size b c) : a.grownBy c (some r) := zA9 h (zA7 k _)
theorem zHs {a b c : World} {r : Nat} (h : Below a.heap.size a b) (k : b.grownBy c (some r)) : a.grownBy c (some r) := zA9 (zA7 h _) k
theorem zC8 (w : World) (row : Option Nat) : w.grownBy w row := ⟨rfl, rfl, rfl, Nat.le_refl _, fun _ _ _ => rfl⟩
theorem Box.ne_map {w : World} {x b : Nat} {cs : List Value} {T : TypeId} {E : List ((Pt × Pt) × Tri3)} (h : Box w x cs T) (H : HoldsMap eW eT okW w b E) : x ≠ b := by
 obtain ⟨es, clock, hb, _⟩ := H;intro e;unfold Box at h;rw [e, hb] at h;cases h
theorem Box.turn {w w' : World} {x b : Nat} {cs : List Value} {T : TypeId} {E : List ((Pt × Pt) × Tri3)} (h : Box w x cs T) (H : HoldsMap eW eT okW w b E) (hg : w.grownBy w' (some b)) : Box w' x cs T := by
 have hne := h.ne_map H;have hl := h.lt;unfold Box at *;rw [hg.block x hl (by simpa using hne)]; exact h
theorem RowAt.turn {α : Type} {c : α → List Value} {k : Nat} {w w' : World} {a : Option Addr} {L : List α} {b : Nat} {E : List ((Pt × Pt) × Tri3)} (h : RowAt c k w a L) (hc : ∀ x, c x ≠ []) (H : HoldsMap eW eT okW w b E) (hg : w.grownBy w' (some b)) : RowAt c k w' a L := fun j x hx => by
 obtain ⟨ad, h1, h2, h3⟩ := h j x hx;have hne : ad.block ≠ b := by
  obtain ⟨es, clock, hb, _⟩ := H;cases hcx : c x with
  | nil => exact absurd hcx (hc x)
  | cons v l =>
   have h4 := h3 0 v (by rw [hcx]; rfl);intro e;unfold World.cell? at h4;rw [zAk, zAk, e, hb] at h4;cases h4
 refine ⟨ad, h1, Nat.lt_of_lt_of_le h2 hg.size, fun i u hu => ?_⟩;exact hg.cell (h3 i u hu) (by rw [zAk, zAk]; simpa using hne)
theorem cT_ne (x : Tri3) : cT x ≠ [] := by simp [cT]
abbrev Es := List ((Pt × Pt) × Tri3)
def putT (E : Es) (T : Tri3) : Es := putE (putE (putE E (T.A, T.B) T) (T.B, T.C) T) (T.C, T.A) T
def takeT (E : Es) (T : Tri3) : Es := delE (delE (delE E (T.A, T.B)) (T.B, T.C)) (T.C, T.A)
def putRun (E : Es) : List Tri3 → Nat × Es
 | [] => (0, E)
 | T :: l => if fitsE E T = true then ((putRun (putT E T) l).1 + 1, (putRun (putT E T) l).2) else (0, E)
def takeRun (E : Es) : List Tri3 → Nat × Es
 | [] => (0, E)
 | T :: l => if hasE E T = true then ((takeRun (takeT E T) l).1 + 1, (takeRun (takeT E T) l).2) else (0, E)
theorem zE8 {E F : Es} {L : List Tri3} {k : Nat} (hk : k < L.length) (h : putRun E L = (k + (putRun F (L.drop k)).1, (putRun F (L.drop k)).2)) (hf : fitsE F L[k] = true) :
    putRun E L = (k + 1 + (putRun (putT F L[k]) (L.drop (k + 1))).1, (putRun (putT F L[k]) (L.drop (k + 1))).2) := by
 rw [h, List.drop_eq_getElem_cons hk, putRun, if_pos hf];simp only [Prod.mk.injEq, and_true];omega
theorem zE7 {E F : Es} {L : List Tri3} {k : Nat} (hk : k < L.length) (h : putRun E L = (k + (putRun F (L.drop k)).1, (putRun F (L.drop k)).2)) (hf : fitsE F L[k] = false) : putRun E L = (k, F) := by
 rw [h, List.drop_eq_getElem_cons hk, putRun, if_neg (by rw [hf]; decide)]; rfl
theorem zFa {E F : Es} {L : List Tri3} {k : Nat} (hk : L.length ≤ k) (h : putRun E L = (k + (putRun F (L.drop k)).1, (putRun F (L.drop k)).2)) : putRun E L = (k, F) := by
 rw [h, List.drop_eq_nil_of_le hk]; rfl
theorem zF3 {E F : Es} {L : List Tri3} {k : Nat} (hk : k < L.length) (h : takeRun E L = (k + (takeRun F (L.drop k)).1, (takeRun F (L.drop k)).2)) (hf : hasE F L[k] = true) :
    takeRun E L = (k + 1 + (takeRun (takeT F L[k]) (L.drop (k + 1))).1, (takeRun (takeT F L[k]) (L.drop (k + 1))).2) := by
 rw [h, List.drop_eq_getElem_cons hk, takeRun, if_pos hf];simp only [Prod.mk.injEq, and_true];omega
theorem zF2 {E F : Es} {L : List Tri3} {k : Nat} (hk : k < L.length) (h : takeRun E L = (k + (takeRun F (L.drop k)).1, (takeRun F (L.drop k)).2)) (hf : hasE F L[k] = false) : takeRun E L = (k, F) := by
 rw [h, List.drop_eq_getElem_cons hk, takeRun, if_neg (by rw [hf]; decide)]; rfl
theorem zFx {E F : Es} {L : List Tri3} {k : Nat} (hk : L.length ≤ k) (h : takeRun E L = (k + (takeRun F (L.drop k)).1, (takeRun F (L.drop k)).2)) : takeRun E L = (k, F) := by
 rw [h, List.drop_eq_nil_of_le hk]; rfl
attribute [local go_sem] rOper rAt rUpon cell_set sg_i64 sg_u64 alloc_cell alloc_frozen
attribute [local go_sem 10000] pt_eql pt_neq tri_eql
attribute [local irreducible] rWalk
theorem map_nil (b : Nat) (w : World) : (binOp .eql 96 (.map (some b)) (.map none)).run Tryz.prog w = .ok (.bool false) w := by
 simp only [binOp];simp [run_equal_map_nil w 96 _ _ (some b) Tryz.underlying96]
theorem rmap_nil (b : Nat) (w : World) : (binOp .eql 52 (.map (some b)) (.map none)).run Tryz.prog w = .ok (.bool false) w := by
 simp only [binOp];simp [run_equal_map_nil w 52 _ _ (some b) Tryz.underlying52]
attribute [local go_sem] map_nil rmap_nil
theorem zEa (mb b : Nat) (E : Es) (a : Option Addr) (cap n : Nat) (L : List Tri3) (hn : Hid (L.length = n)) (hn1 : n ≤ 1000000) (hok : ∀ T ∈ L, okT T) (w : World) (Bm : Box w mb [.map (some b)] 98) (Hm : HoldsMap eW eT okW w b E) (Hr : RowAt cT 6 w a L) :
    Calls Tryz.prog 52 #[.pointer (some ⟨mb, 0, none⟩), .slice a n cap] w fun e w' => e = .returned (.int .i64 (putRun E L).1) ∧ w.grownBy w' (some b) ∧ HoldsMap eW eT okW w' b (putRun E L).2 := by
 have hmb := Bm.ne_map Hm;have Fm := Bm.f
 go_enter Tryz.func52, Tryz.ntmps52
 go_wp2;clear Fm
 go_loopw [19] (fun i wr => ∃ (k : Nat) (F : Es), k ≤ n ∧ i = .int .i64 k ∧ Hid (putRun E L = (k + (putRun F (L.drop k)).1, (putRun F (L.drop k)).2)) ∧ HoldsMap eW eT okW wr b F ∧ w.grownBy wr (some b)) (fun i _ => n - (intOf i).toNat)
 case atStart => exact ⟨0, E, Nat.zero_le _, rfl, Lib.hid (by simp), Hm, zC8 _ _⟩
 case round =>
  obtain ⟨k, F, hk, rfl, hR, HF, hg⟩ := hrel;have BM := Bm.turn Hm hg;by_cases hlt : k < n
  ·have hlk : k < L.length := hn.out ▸ hlt;have hokk := hok L[k] (List.getElem_mem hlk);have hst := fun hf => zE8 hlk hR.out hf;have hsp := fun hf => zE7 hlk hR.out hf;obtain ⟨ad, A, ea, eA, zA, _, q0, q1, q2, q3, q4, q5⟩ := (Hr.turn cT_ne Hm hg).tri hlk;generalize L[k] = T at *
   cases hf : fitsE F T with
   | false =>
    have HP := Lib.hid (hsp hf);clear hst hsp;have cf := zIt mb b F T hokk;rw [hf] at cf;clear hf;have FM := BM.f;go_wp2_with fail;refine zA1 fun W1 hW => ?_;have Bt : Box W1 wr.heap.size [.int .i64 T.A.x, .int .i64 T.A.y, .int .i64 T.B.x, .int .i64 T.B.y, .int .i64 T.C.x, .int .i64 T.C.y] 43 := by rw [hW]; exact Box.new rfl
    have hw : Below wr.heap.size wr W1 := by rw [hW]; go_grown
    clear hW;clear FM;replace BM := BM.ee hw;clear q0 q1 q2 q3 q4 q5 ea eA zA;refine (cf _ BM (HF.ee hw)).mono ?_;rintro e w2 ⟨rfl, hb⟩;obtain ⟨BM, Bt, hw, -⟩ := X2 BM Bt hw hb;clear hb;have FM := BM.f;have Ft := Bt.f;go_wp2
    go_ret
    exact ⟨zAu (by rw [HP.out]), zAb hg hw, by rw [HP.out]; exact HF.ee hw⟩
   | true =>
    have HP := Lib.hid (hst hf);clear hst hsp;have cf := zIt mb b F T hokk;rw [hf] at cf;clear hf;have FM := BM.f;go_wp2_with fail;refine zA1 fun W1 hW => ?_;have Bt : Box W1 wr.heap.size [.int .i64 T.A.x, .int .i64 T.A.y, .int .i64 T.B.x, .int .i64 T.B.y, .int .i64 T.C.x, .int .i64 T.C.y] 43 := by rw [hW]; exact Box.new rfl
    have hw : Below wr.heap.size wr W1 := by rw [hW]; go_grown
    clear hW;clear FM;replace BM := BM.ee hw;clear q0 q1 q2 q3 q4 q5 ea eA zA;refine (cf _ BM (HF.ee hw)).mono ?_;rintro e w2 ⟨rfl, hb⟩;obtain ⟨BM, Bt, hw, -⟩ := X2 BM Bt hw hb;clear hb;have FM := BM.f;have Ft := Bt.f;go_wp2_with fail;clear FM Ft;refine wp_loop_rounds 5 ?_;try rw [rounds_succ]
    have FM := BM.f;have Ft := Bt.f;go_wp2_with fail;replace HF := HF.ee hw;replace hg := zAb hg hw;have hw : Below w2.heap.size w2 w2 := Below.refl _ _;have g_Mt := J2 BM.cells Bt.cells;refine wrt 8 (by kernel_rfl) (by kernel_rfl) ?_;simp only [tK1, tK0, dP1, dP0];repeat (first | (refine zA0 (Eq.refl false) ?_; simp only [Act.put, sT2, sT1, sT0]) | (refine rWalk_step (fun K hK => ?_); go_simp; first | (refine hK _ ?_; clear hK K) | (apply Exists.intro; refine ⟨fun _ => ?_, hK _ ?_⟩; (first | with_reducible exact toExt (way_0 T) _); clear hK K)))
    refine rWalk_nil ?_;intro w3 hb;clear g_Mt;clear FM Ft;obtain ⟨BM, Bt, hw, -⟩ := X2 BM Bt hw hb;replace HF := HF.ee hw;replace hg := zAb hg hw;clear hw;refine zBd _ rfl _ _ _ rfl kvM rfl HF (T.A, T.B) T rfl rfl (okT_w hokk).1 ?_;intro c0 HG hh hs;replace BM := BM.turn HF hh;replace Bt := Bt.turn HF hh;replace hg := zA9 hg hh;clear HF hh hs;have HF := HG;clear HG;have FM := BM.f;have Ft := Bt.f;go_wp2_with fail;clear FM Ft;try rw [rounds_succ]
    have FM := BM.f;have Ft := Bt.f;go_wp2_with fail;have hw : Below c0.heap.size c0 c0 := Below.refl _ _;have g_Mt := J2 BM.cells Bt.cells;refine wrt 8 (by kernel_rfl) (by kernel_rfl) ?_;simp only [tK1, tK0, dP1, dP0];repeat (first | (refine zA0 (Eq.refl false) ?_; simp only [Act.put, sT2, sT1, sT0]) | (refine rWalk_step (fun K hK => ?_); go_simp; first | (refine hK _ ?_; clear hK K) | (apply Exists.intro; refine ⟨fun _ => ?_, hK _ ?_⟩; (first | with_reducible exact toExt (way_1 T) _); clear hK K)))
    refine rWalk_nil ?_;intro w4 hb;clear g_Mt;clear FM Ft;obtain ⟨BM, Bt, hw, -⟩ := X2 BM Bt hw hb;replace HF := HF.ee hw;replace hg := zAb hg hw;clear hw;refine zBd _ rfl _ _ _ rfl kvM rfl HF (T.B, T.C) T rfl rfl (okT_w hokk).2.1 ?_;intro c1 HG hh hs;replace BM := BM.turn HF hh;replace Bt := Bt.turn HF hh;replace hg := zA9 hg hh;clear HF hh hs;have HF := HG;clear HG;have FM := BM.f;have Ft := Bt.f;go_wp2_with fail;clear FM Ft;try rw [rounds_succ]
    have FM := BM.f;have Ft := Bt.f;go_wp2_with fail;have hw : Below c1.heap.size c1 c1 := Below.refl _ _;have g_Mt := J2 BM.cells Bt.cells;refine wrt 8 (by kernel_rfl) (by kernel_rfl) ?_;simp only [tK1, tK0, dP1, dP0];repeat (first | (refine zA0 (Eq.refl false) ?_; simp only [Act.put, sT2, sT1, sT0]) | (refine rWalk_step (fun K hK => ?_); go_simp; first | (refine hK _ ?_; clear hK K) | (apply Exists.intro; refine ⟨fun _ => ?_, hK _ ?_⟩; (first | with_reducible exact toExt (way_2 T) _); clear hK K)))
    refine rWalk_nil ?_;intro w5 hb;clear g_Mt;clear FM Ft;obtain ⟨BM, Bt, hw, -⟩ := X2 BM Bt hw hb;replace HF := HF.ee hw;replace hg := zAb hg hw;clear hw;refine zBd _ rfl _ _ _ rfl kvM rfl HF (T.C, T.A) T rfl rfl (okT_w hokk).2.2 ?_;intro c2 HG hh hs;replace BM := BM.turn HF hh;replace Bt := Bt.turn HF hh;replace hg := zA9 hg hh;clear HF hh hs;have HF := HG;clear HG;have FM := BM.f;have Ft := Bt.f;go_wp2_with fail;clear FM Ft;try rw [rounds_succ]
    have FM := BM.f;have Ft := Bt.f;go_wp2
    go_roundw
    case rel => exact ⟨k + 1, putT F T, by omega, by go_num, HP, HF, hg⟩
    case measure => simp [intOf]; omega
  ·have HP := Lib.hid (zFa (by rw [hn.out]; omega) hR.out);have Fm := BM.f;go_wp2
   go_ret
   exact ⟨zAu (by rw [HP.out]; omega), hg, by rw [HP.out]; exact HF⟩
theorem zEx (mb b : Nat) (E : Es) (a : Option Addr) (cap n : Nat) (L : List Tri3) (hn : Hid (L.length = n)) (hn1 : n ≤ 1000000) (hok : ∀ T ∈ L, okT T) (w : World) (Bm : Box w mb [.map (some b)] 98) (Hm : HoldsMap eW eT okW w b E) (Hr : RowAt cT 6 w a L) :
    Calls Tryz.prog 63 #[.pointer (some ⟨mb, 0, none⟩), .slice a n cap] w fun e w' => e = .returned (.int .i64 (takeRun E L).1) ∧ w.grownBy w' (some b) ∧ HoldsMap eW eT okW w' b (takeRun E L).2 := by
 have hmb := Bm.ne_map Hm;have Fm := Bm.f
 go_enter Tryz.func63, Tryz.ntmps63
 go_wp2;clear Fm
 go_loopw [10] (fun i wr => ∃ (k : Nat) (F : Es), k ≤ n ∧ i = .int .i64 k ∧ Hid (takeRun E L = (k + (takeRun F (L.drop k)).1, (takeRun F (L.drop k)).2)) ∧ HoldsMap eW eT okW wr b F ∧ w.grownBy wr (some b)) (fun i _ => n - (intOf i).toNat)
 case atStart => exact ⟨0, E, Nat.zero_le _, rfl, Lib.hid (by simp), Hm, zC8 _ _⟩
 case round =>
  obtain ⟨k, F, hk, rfl, hR, HF, hg⟩ := hrel;have BM := Bm.turn Hm hg;by_cases hlt : k < n
  ·have hlk : k < L.length := hn.out ▸ hlt;have hokk := hok L[k] (List.getElem_mem hlk);have hst := fun hf => zF3 hlk hR.out hf;have hsp := fun hf => zF2 hlk hR.out hf;obtain ⟨ad, A, ea, eA, zA, _, q0, q1, q2, q3, q4, q5⟩ := (Hr.turn cT_ne Hm hg).tri hlk;generalize L[k] = T at *
   cases hf : hasE F T with
   | false =>
    have HP := Lib.hid (hsp hf);clear hst hsp;have cf := zFd mb b F T hokk;rw [hf] at cf;clear hf;have FM := BM.f;go_wp2_with fail;refine zA1 fun W1 hW => ?_;have Bt : Box W1 wr.heap.size [.int .i64 T.A.x, .int .i64 T.A.y, .int .i64 T.B.x, .int .i64 T.B.y, .int .i64 T.C.x, .int .i64 T.C.y] 43 := by rw [hW]; exact Box.new rfl
    have hw : Below wr.heap.size wr W1 := by rw [hW]; go_grown
    clear hW;clear FM;replace BM := BM.ee hw;clear q0 q1 q2 q3 q4 q5 ea eA zA;refine (cf _ BM (HF.ee hw)).mono ?_;rintro e w2 ⟨rfl, hb⟩;obtain ⟨BM, Bt, hw, -⟩ := X2 BM Bt hw hb;clear hb;have FM := BM.f;have Ft := Bt.f;go_wp2
    go_ret
    exact ⟨zAu (by rw [HP.out]), zAb hg hw, by rw [HP.out]; exact HF.ee hw⟩
   | true =>
    have HP := Lib.hid (hst hf);clear hst hsp;have cf := zFd mb b F T hokk;rw [hf] at cf;clear hf;have FM := BM.f;go_wp2_with fail;refine zA1 fun W1 hW => ?_;have Bt : Box W1 wr.heap.size [.int .i64 T.A.x, .int .i64 T.A.y, .int .i64 T.B.x, .int .i64 T.B.y, .int .i64 T.C.x, .int .i64 T.C.y] 43 := by rw [hW]; exact Box.new rfl
    have hw : Below wr.heap.size wr W1 := by rw [hW]; go_grown
    clear hW;clear FM;replace BM := BM.ee hw;clear q0 q1 q2 q3 q4 q5 ea eA zA;refine (cf _ BM (HF.ee hw)).mono ?_;rintro e w2 ⟨rfl, hb⟩;obtain ⟨BM, Bt, hw, -⟩ := X2 BM Bt hw hb;clear hb;have FM := BM.f;have Ft := Bt.f;go_wp2_with fail;clear FM Ft;refine wp_loop_rounds 5 ?_;try rw [rounds_succ]
    have FM := BM.f;have Ft := Bt.f;go_wp2_with fail;replace HF := HF.ee hw;replace hg := zAb hg hw;have hw : Below w2.heap.size w2 w2 := Below.refl _ _;have g_Mt := J2 BM.cells Bt.cells;refine wrt 7 (by kernel_rfl) (by kernel_rfl) ?_;simp only [tK1, tK0, dP1, dP0];repeat (first | (refine zA0 (Eq.refl false) ?_; simp only [Act.put, sT2, sT1, sT0]) | (refine rWalk_step (fun K hK => ?_); go_simp; first | (refine hK _ ?_; clear hK K) | (apply Exists.intro; refine ⟨fun _ => ?_, hK _ ?_⟩; (first | with_reducible exact toExt (way_0 T) _); clear hK K)))
    refine rWalk_nil ?_;intro w3 hb;clear g_Mt;clear FM Ft;obtain ⟨BM, Bt, hw, -⟩ := X2 BM Bt hw hb;replace HF := HF.ee hw;replace hg := zAb hg hw;clear hw;refine zBt _ rfl _ _ rfl kvM rfl HF (T.A, T.B) rfl (okT_w hokk).1 ?_;intro c0 HG hh hs;replace BM := BM.turn HF hh;replace Bt := Bt.turn HF hh;replace hg := zA9 hg hh;clear HF hh hs;have HF := HG;clear HG;have FM := BM.f;have Ft := Bt.f;go_wp2_with fail;clear FM Ft;try rw [rounds_succ]
    have FM := BM.f;have Ft := Bt.f;go_wp2_with fail;have hw : Below c0.heap.size c0 c0 := Below.refl _ _;have g_Mt := J2 BM.cells Bt.cells;refine wrt 7 (by kernel_rfl) (by kernel_rfl) ?_;simp only [tK1, tK0, dP1, dP0];repeat (first | (refine zA0 (Eq.refl false) ?_; simp only [Act.put, sT2, sT1, sT0]) | (refine rWalk_step (fun K hK => ?_); go_simp; first | (refine hK _ ?_; clear hK K) | (apply Exists.intro; refine ⟨fun _ => ?_, hK _ ?_⟩; (first | with_reducible exact toExt (way_1 T) _); clear hK K)))
    refine rWalk_nil ?_;intro w4 hb;clear g_Mt;clear FM Ft;obtain ⟨BM, Bt, hw, -⟩ := X2 BM Bt hw hb;replace HF := HF.ee hw;replace hg := zAb hg hw;clear hw;refine zBt _ rfl _ _ rfl kvM rfl HF (T.B, T.C) rfl (okT_w hokk).2.1 ?_;intro c1 HG hh hs;replace BM := BM.turn HF hh;replace Bt := Bt.turn HF hh;replace hg := zA9 hg hh;clear HF hh hs;have HF := HG;clear HG;have FM := BM.f;have Ft := Bt.f;go_wp2_with fail;clear FM Ft;try rw [rounds_succ]
    have FM := BM.f;have Ft := Bt.f;go_wp2_with fail;have hw : Below c1.heap.size c1 c1 := Below.refl _ _;have g_Mt := J2 BM.cells Bt.cells;refine wrt 7 (by kernel_rfl) (by kernel_rfl) ?_;simp only [tK1, tK0, dP1, dP0];repeat (first | (refine zA0 (Eq.refl false) ?_; simp only [Act.put, sT2, sT1, sT0]) | (refine rWalk_step (fun K hK => ?_); go_simp; first | (refine hK _ ?_; clear hK K) | (apply Exists.intro; refine ⟨fun _ => ?_, hK _ ?_⟩; (first | with_reducible exact toExt (way_2 T) _); clear hK K)))
    refine rWalk_nil ?_;intro w5 hb;clear g_Mt;clear FM Ft;obtain ⟨BM, Bt, hw, -⟩ := X2 BM Bt hw hb;replace HF := HF.ee hw;replace hg := zAb hg hw;clear hw;refine zBt _ rfl _ _ rfl kvM rfl HF (T.C, T.A) rfl (okT_w hokk).2.2 ?_;intro c2 HG hh hs;replace BM := BM.turn HF hh;replace Bt := Bt.turn HF hh;replace hg := zA9 hg hh;clear HF hh hs;have HF := HG;clear HG;have FM := BM.f;have Ft := Bt.f;go_wp2_with fail;clear FM Ft;try rw [rounds_succ]
    have FM := BM.f;have Ft := Bt.f;go_wp2
    go_roundw
    case rel => exact ⟨k + 1, takeT F T, by omega, by go_num, HP, HF, hg⟩
    case measure => simp [intOf]; omega
  ·have HP := Lib.hid (zFx (by rw [hn.out]; omega) hR.out);have Fm := BM.f;go_wp2
   go_ret
   exact ⟨zAu (by rw [HP.out]; omega), hg, by rw [HP.out]; exact HF⟩
end Go.Proofs.YtjkfakaehjmnbaaGreat
