/- Put together: WalF. -/
import Derived.Test.YtnocdecimcpkfaaRows
import Derived.Test.YtnocdecimcpkfaaPut21
import Derived.Test.YtnocdecimcpkfaaPut2
import Derived.WalkKit
import Derived.WalkSpells
import Derived.WalkLawsBesides
import Derived.Laws.Externs
import Derived.Deep.QuietTactic
import Derived.BigQuiet
import Derived.Lib.Hide
import Derived.Handy
import Derived.OwnWalk
import Derived.LoopN
import Derived.RegionTactic
namespace Go.Proofs.Ytnocdecimcpkfaa
open Go.RowKit Go.Sort
attribute [local go_sem] rOper rAt rUpon cell_set sg_i64 sg_u64 alloc_cell alloc_frozen
attribute [local go_sem 10000] pt_eql pt_neq wal_eql wal_neq
attribute [local irreducible] rWalk

theorem RowAt.take {α : Type} {c : α → List Value} {k : Nat} {w : World} {a : Option Addr} {L : List α} (h : RowAt c k w a L) (m : Nat) : RowAt c k w a (L.take m) := fun j x hx => h j x (by
  rw [List.getElem?_take] at hx
  split at hx
  · exact hx
  · cases hx)
/-- A set in memory, to be read. -/
structure SetRd (w : World) (sb : Nat) (a0 : Option Addr) (c n : Nat) (L : List Wl) : Prop where
  box : Box w sb [.slice a0 n c] 64
  row : RowAt cW 5 w a0 L
  len : L.length = n
  le : L.length ≤ 1000000
  nc : n ≤ c
  flat : Flat a0
  nil0 : a0 = none → L = []
  ris : Ris L
  good : ∀ x ∈ L, GoodW x
theorem SetRd.ext {w w' : World} {sb c n m : Nat} {a0 : Option Addr} {L : List Wl} (S : SetRd w sb a0 c n L) (hb : Below m w w') (hm : m = w.heap.size) : SetRd w' sb a0 c n L :=
  ⟨S.box.ext hb hm, S.row.ext hb hm, S.len, S.le, S.nc, S.flat, S.nil0, S.ris, S.good⟩
theorem SetRd.pos {w : World} {sb c n : Nat} {a0 : Option Addr} {L : List Wl} (S : SetRd w sb a0 c n L) : ∀ x ∈ L, 0 < x.K := fun x hx => by have := (S.good x hx).k; omega
theorem find_any (sb : Nat) (a0 : Option Addr) (c n : Nat) (L : List Wl) (a b : Pt) (w : World) (S : SetRd w sb a0 c n L) :
    Calls Try.prog 38 #[.pointer (some ⟨sb, 0, none⟩), .agg #[.int .i64 a.x, .int .i64 a.y], .agg #[.int .i64 b.x, .int .i64 b.y]] w fun e w' => e = .returned (.tuple #[.int .i64 (posW L (lo2 a b) (hi2 a b) : Nat), .bool (fnd L (posW L (lo2 a b) (hi2 a b)) (lo2 a b) (hi2 a b))]) ∧ Below w.heap.size w w' :=
  let ⟨h1, h2⟩ := pos_spec S.ris (lo2 a b) (hi2 a b)
  find_some sb a0 c n L S.len S.le a b _ h1 h2 w S.box S.row
theorem begun_any (sb : Nat) (a0 : Option Addr) (c n : Nat) (L : List Wl) (p : Pt) (w : World) (S : SetRd w sb a0 c n L) :
    Calls Try.prog 44 #[.pointer (some ⟨sb, 0, none⟩), .agg #[.int .i64 p.x, .int .i64 p.y]] w fun e w' => e = .returned (.slice a0 (bgL L p).length c) ∧ Below w.heap.size w w' :=
  let ⟨h1, h2, _⟩ := bg_spec S.ris p
  begun_some sb a0 c n L S.len S.le S.nc p _ h1 h2 w S.box S.row
theorem kind_nil (a b : Pt) (w : World) :
    Calls Try.prog 20 #[.pointer none, .agg #[.int .i64 a.x, .int .i64 a.y], .agg #[.int .i64 b.x, .int .i64 b.y]] w fun e w' => e = .returned (.int .i64 0) ∧ Below w.heap.size w w' := by
  go_enter Try.func20, Try.ntmps20
  have c1 := find_nil a b
  go_wp2_with fail
  refine at_call fun W1 hW => ?_
  have Ba : Box W1 (w.heap.size) [.int .i64 a.x, .int .i64 a.y] 33 := by rw [hW]; exact (Box.new rfl).old _
  have Bb : Box W1 (w.heap.size + 1) [.int .i64 b.x, .int .i64 b.y] 33 := by rw [hW]; exact Box.new (by simp)
  have hw : Below w.heap.size w W1 := by rw [hW]; go_grown
  clear hW
  refine (c1 _).mono ?_
  rintro e w2 ⟨rfl, hb⟩
  replace Ba := Ba.ext hb rfl
  replace Bb := Bb.ext hb rfl
  replace hw := hw.trans (hb.mono hw.size)
  clear hb
  obtain ⟨xa, ya, za, va⟩ := Ba.facts
  obtain ⟨xb, yb, zb, vb⟩ := Bb.facts
  go_wp2
  go_ret
  exact ⟨rfl, by have hl := hw.size; go_grown⟩

theorem kind_0 (sb : Nat) (a0 : Option Addr) (c n : Nat) (L : List Wl) (a b : Pt) (hf : (fnd L (posW L (lo2 a b) (hi2 a b)) (lo2 a b) (hi2 a b)) = false) (w : World) (S : SetRd w sb a0 c n L) :
    Calls Try.prog 20 #[.pointer (some ⟨sb, 0, none⟩), .agg #[.int .i64 a.x, .int .i64 a.y], .agg #[.int .i64 b.x, .int .i64 b.y]] w fun e w' => e = .returned (.int .i64 0) ∧ Below w.heap.size w w' := by
  go_enter Try.func20, Try.ntmps20
  have hsb := S.box.lt
  go_wp2_with fail
  refine at_call fun W1 hW => ?_
  have Ba : Box W1 (w.heap.size) [.int .i64 a.x, .int .i64 a.y] 33 := by rw [hW]; exact (Box.new rfl).old _
  have Bb : Box W1 (w.heap.size + 1) [.int .i64 b.x, .int .i64 b.y] 33 := by rw [hW]; exact Box.new (by simp)
  have hw : Below w.heap.size w W1 := by rw [hW]; go_grown
  clear hW
  have SS := S.ext hw rfl
  have BS := SS.box
  have cf := find_any sb a0 c n L a b W1 SS
  rw [hf] at cf
  refine (cf).mono ?_
  rintro e w2 ⟨rfl, hb⟩
  replace Ba := Ba.ext hb rfl
  replace Bb := Bb.ext hb rfl
  replace BS := BS.ext hb rfl
  replace hw := hw.trans (hb.mono hw.size)
  clear hb
  obtain ⟨xa, ya, za, va⟩ := Ba.facts
  obtain ⟨xb, yb, zb, vb⟩ := Bb.facts
  obtain ⟨xS, yS, zS, vS⟩ := BS.facts
  go_wp2
  go_ret
  exact ⟨rfl, by have hl := hw.size; go_grown⟩

theorem kind_1 (sb : Nat) (a0 : Option Addr) (c n : Nat) (L : List Wl) (a b : Pt) (hf : (fnd L (posW L (lo2 a b) (hi2 a b)) (lo2 a b) (hi2 a b)) = true) (m : Nat) (hm0 : posW L (lo2 a b) (hi2 a b) = m) (hm : m < L.length) (X : Wl) (hX : L[m] = X) (w : World) (S : SetRd w sb a0 c n L) :
    Calls Try.prog 20 #[.pointer (some ⟨sb, 0, none⟩), .agg #[.int .i64 a.x, .int .i64 a.y], .agg #[.int .i64 b.x, .int .i64 b.y]] w fun e w' => e = .returned (.int .i64 X.K) ∧ Below w.heap.size w w' := by
  go_enter Try.func20, Try.ntmps20
  have hsb := S.box.lt
  go_wp2_with fail
  refine at_call fun W1 hW => ?_
  have Ba : Box W1 (w.heap.size) [.int .i64 a.x, .int .i64 a.y] 33 := by rw [hW]; exact (Box.new rfl).old _
  have Bb : Box W1 (w.heap.size + 1) [.int .i64 b.x, .int .i64 b.y] 33 := by rw [hW]; exact Box.new (by simp)
  have hw : Below w.heap.size w W1 := by rw [hW]; go_grown
  clear hW
  have SS := S.ext hw rfl
  have BS := SS.box
  have cf := find_any sb a0 c n L a b W1 SS
  rw [hf] at cf
  rw [hm0] at cf
  refine (cf).mono ?_
  rintro e w2 ⟨rfl, hb⟩
  replace Ba := Ba.ext hb rfl
  replace Bb := Bb.ext hb rfl
  replace BS := BS.ext hb rfl
  replace hw := hw.trans (hb.mono hw.size)
  clear hb
  have SS2 := SS.ext (Below.refl _ _) rfl
  obtain ⟨ad, A, ea, eA, hA⟩ := (S.row.ext hw rfl).five (j := m) hm
  have hmn : m < n := by rw [← S.len]; exact hm
  rw [hX] at hA
  obtain ⟨u0, u1, u2, u3, u4, u5⟩ := hA.facts
  subst ea
  clear SS SS2 hA
  obtain ⟨xa, ya, za, va⟩ := Ba.facts
  obtain ⟨xb, yb, zb, vb⟩ := Bb.facts
  obtain ⟨xS, yS, zS, vS⟩ := BS.facts
  go_wp2
  go_ret
  exact ⟨rfl, by have hl := hw.size; go_grown⟩

theorem kind_any (sb : Nat) (a0 : Option Addr) (c n : Nat) (L : List Wl) (a b : Pt) (w : World) (S : SetRd w sb a0 c n L) :
    Calls Try.prog 20 #[.pointer (some ⟨sb, 0, none⟩), .agg #[.int .i64 a.x, .int .i64 a.y], .agg #[.int .i64 b.x, .int .i64 b.y]] w fun e w' => e = .returned (.int .i64 (kindW L (lo2 a b) (hi2 a b))) ∧ Below w.heap.size w w' := by
  cases hf : (fnd L (posW L (lo2 a b) (hi2 a b)) (lo2 a b) (hi2 a b)) with
  | false => rw [kindW_false S.ris hf S.pos]; exact kind_0 sb a0 c n L a b hf w S
  | true =>
    obtain ⟨hm, _⟩ := fnd_true S.ris hf S.pos
    rw [kindW_true S.ris hf S.pos hm]; exact kind_1 sb a0 c n L a b hf _ rfl hm _ rfl w S
theorem len_nil  (w : World) :
    Calls Try.prog 26 #[.pointer none] w fun e w' => e = .returned (.int .i64 0) ∧ Below w.heap.size w w' := by
  go_enter Try.func26, Try.ntmps26
  go_wp2
  go_ret
  exact ⟨rfl, Below.refl _ _⟩

theorem len_any (sb : Nat) (a0 : Option Addr) (c n : Nat) (L : List Wl) (w : World) (S : SetRd w sb a0 c n L) :
    Calls Try.prog 26 #[.pointer (some ⟨sb, 0, none⟩)] w fun e w' => e = .returned (.int .i64 L.length) ∧ Below w.heap.size w w' := by
  go_enter Try.func26, Try.ntmps26
  obtain ⟨xs, ys, zs, vs⟩ := S.box.facts
  have HN := Lib.hid S.len
  go_wp2
  go_ret
  exact ⟨by rw [HN.out]; rfl, Below.refl _ _⟩

theorem all_any (sb : Nat) (a0 : Option Addr) (c n : Nat) (L : List Wl) (w : World) (S : SetRd w sb a0 c n L) :
    Calls Try.prog 25 #[.pointer (some ⟨sb, 0, none⟩)] w fun e w' => ∃ v', e = .returned v' ∧ WRow w' w.heap.size v' L ∧ Below w.heap.size w w' := by
  go_enter Try.func25, Try.ntmps25
  obtain ⟨xs, ys, zs, vs⟩ := S.box.facts
  have cc := cloneW_any a0 c L S.le w S.row S.flat S.nil0
  rw [S.len] at cc
  go_wp2_with fail
  refine cc.mono ?_
  rintro e w1 ⟨v', rfl, ho, hb⟩
  go_wp2
  go_ret
  exact ⟨v', rfl, ho, hb⟩

def clashW (L : List Wl) (a b : Pt) : Int := if mkOk a b 1 = true then (if kindW L (lo2 a b) (hi2 a b) = 0 then (if (bgL L (hi2 a b)).any (fun x => bar1 x ⟨lo2 a b, hi2 a b, 1⟩) then 7 else 0) else 5) else 2
theorem clash_nil (a b : Pt) (w : World) :
    Calls Try.prog 18 #[.pointer none, .agg #[.int .i64 a.x, .int .i64 a.y], .agg #[.int .i64 b.x, .int .i64 b.y]] w fun e w' => e = .returned (.int .i64 2) ∧ Below w.heap.size w w' := by
  go_enter Try.func18, Try.ntmps18
  have c1 := make_any a b 1
  go_wp2_with fail
  refine at_call fun W1 hW => ?_
  have Ba : Box W1 (w.heap.size) [.int .i64 a.x, .int .i64 a.y] 33 := by rw [hW]; exact (Box.new rfl).old _
  have Bb : Box W1 (w.heap.size + 1) [.int .i64 b.x, .int .i64 b.y] 33 := by rw [hW]; exact Box.new (by simp)
  have hw : Below w.heap.size w W1 := by rw [hW]; go_grown
  clear hW
  refine (c1 _).mono ?_
  rintro e w2 ⟨rfl, hb⟩
  replace Ba := Ba.ext hb rfl
  replace Bb := Bb.ext hb rfl
  replace hw := hw.trans (hb.mono hw.size)
  clear hb
  obtain ⟨xa, ya, za, va⟩ := Ba.facts
  obtain ⟨xb, yb, zb, vb⟩ := Bb.facts
  go_wp2
  go_ret
  exact ⟨rfl, by have hl := hw.size; go_grown⟩

set_option maxHeartbeats 1000000 in
theorem clash_0 (sb : Nat) (a0 : Option Addr) (c n : Nat) (L : List Wl) (a b : Pt) (ho : mkOk a b 1 = false) (w : World) (S : SetRd w sb a0 c n L) :
    Calls Try.prog 18 #[.pointer (some ⟨sb, 0, none⟩), .agg #[.int .i64 a.x, .int .i64 a.y], .agg #[.int .i64 b.x, .int .i64 b.y]] w fun e w' => e = .returned (.int .i64 2) ∧ Below w.heap.size w w' := by
  go_enter Try.func18, Try.ntmps18
  have hsb := S.box.lt
  have c1 := make_any a b 1
  rw [ho] at c1
  go_wp2_with fail
  refine at_call fun W1 hW => ?_
  have Ba : Box W1 (w.heap.size) [.int .i64 a.x, .int .i64 a.y] 33 := by rw [hW]; exact (Box.new rfl).old _
  have Bb : Box W1 (w.heap.size + 1) [.int .i64 b.x, .int .i64 b.y] 33 := by rw [hW]; exact Box.new (by simp)
  have hw : Below w.heap.size w W1 := by rw [hW]; go_grown
  clear hW
  refine (c1 _).mono ?_
  rintro e w2 ⟨rfl, hb⟩
  replace Ba := Ba.ext hb rfl
  replace Bb := Bb.ext hb rfl
  replace hw := hw.trans (hb.mono hw.size)
  clear hb
  obtain ⟨xa, ya, za, va⟩ := Ba.facts
  obtain ⟨xb, yb, zb, vb⟩ := Bb.facts
  go_wp2
  go_ret
  exact ⟨rfl, by have hl := hw.size; go_grown⟩

set_option maxHeartbeats 1000000 in
theorem clash_1 (sb : Nat) (a0 : Option Addr) (c n : Nat) (L : List Wl) (a b : Pt) (ho : mkOk a b 1 = true) (hk : (kindW L (lo2 a b) (hi2 a b) != 0) = true) (w : World) (S : SetRd w sb a0 c n L) :
    Calls Try.prog 18 #[.pointer (some ⟨sb, 0, none⟩), .agg #[.int .i64 a.x, .int .i64 a.y], .agg #[.int .i64 b.x, .int .i64 b.y]] w fun e w' => e = .returned (.int .i64 5) ∧ Below w.heap.size w w' := by
  go_enter Try.func18, Try.ntmps18
  have hsb := S.box.lt
  have c1 := make_any a b 1
  rw [ho] at c1
  go_wp2_with fail
  refine at_call fun W1 hW => ?_
  have Ba : Box W1 (w.heap.size) [.int .i64 a.x, .int .i64 a.y] 33 := by rw [hW]; exact (Box.new rfl).old _
  have Bb : Box W1 (w.heap.size + 1) [.int .i64 b.x, .int .i64 b.y] 33 := by rw [hW]; exact Box.new (by simp)
  have hw : Below w.heap.size w W1 := by rw [hW]; go_grown
  clear hW
  refine (c1 _).mono ?_
  rintro e w2 ⟨rfl, hb⟩
  replace Ba := Ba.ext hb rfl
  replace Bb := Bb.ext hb rfl
  replace hw := hw.trans (hb.mono hw.size)
  clear hb
  obtain ⟨xa, ya, za, va⟩ := Ba.facts
  obtain ⟨xb, yb, zb, vb⟩ := Bb.facts
  go_wp2_with fail
  clear xa ya za va xb yb zb vb
  refine at_call fun W3 hW => ?_
  obtain ⟨bkv, hbv⟩ : ∃ b, w2.heap.size = b := ⟨_, rfl⟩
  rw [hbv]
  have lav := Ba.lt
  rw [hbv] at lav
  have lbv := Bb.lt
  rw [hbv] at lbv
  have fv := hw.size
  rw [hbv] at fv
  have Bv : Box W3 bkv [.int .i64 (mkW a b 1).A.x, .int .i64 (mkW a b 1).A.y, .int .i64 (mkW a b 1).B.x, .int .i64 (mkW a b 1).B.y, .int .i64 (mkW a b 1).K] 35 := by rw [hW]; exact Box.new hbv.symm
  replace Ba : Box W3 (w.heap.size) [.int .i64 a.x, .int .i64 a.y] 33 := by rw [hW]; exact Ba.old _
  replace Bb : Box W3 (w.heap.size + 1) [.int .i64 b.x, .int .i64 b.y] 33 := by rw [hW]; exact Bb.old _
  replace hw : Below w.heap.size w W3 := by have hl := hw.size; rw [hW]; go_grown
  clear hW hbv
  have SS := S.ext hw rfl
  have ck := kind_any sb a0 c n L a b W3 SS
  generalize kindW L (lo2 a b) (hi2 a b) = kk at *
  refine (ck).mono ?_
  rintro e w4 ⟨rfl, hb⟩
  replace Ba := Ba.ext hb rfl
  replace Bb := Bb.ext hb rfl
  replace Bv := Bv.ext hb rfl
  replace hw := hw.trans (hb.mono hw.size)
  clear hb
  obtain ⟨xa, ya, za, va⟩ := Ba.facts
  obtain ⟨xb, yb, zb, vb⟩ := Bb.facts
  obtain ⟨xv, yv, zv, vv⟩ := Bv.facts
  go_wp2
  go_ret
  exact ⟨rfl, by have hl := hw.size; go_grown⟩

set_option maxHeartbeats 1000000 in
theorem clash_2 (sb : Nat) (a0 : Option Addr) (c n : Nat) (L : List Wl) (a b : Pt) (ho : mkOk a b 1 = true) (hk : (kindW L (lo2 a b) (hi2 a b) != 0) = false) (hx7 : (bgL L (hi2 a b)).any (fun x => bar1 x ⟨lo2 a b, hi2 a b, 1⟩) = true) (w : World) (S : SetRd w sb a0 c n L) :
    Calls Try.prog 18 #[.pointer (some ⟨sb, 0, none⟩), .agg #[.int .i64 a.x, .int .i64 a.y], .agg #[.int .i64 b.x, .int .i64 b.y]] w fun e w' => e = .returned (.int .i64 7) ∧ Below w.heap.size w w' := by
  go_enter Try.func18, Try.ntmps18
  have hsb := S.box.lt
  have c1 := make_any a b 1
  rw [ho] at c1
  go_wp2_with fail
  refine at_call fun W1 hW => ?_
  have Ba : Box W1 (w.heap.size) [.int .i64 a.x, .int .i64 a.y] 33 := by rw [hW]; exact (Box.new rfl).old _
  have Bb : Box W1 (w.heap.size + 1) [.int .i64 b.x, .int .i64 b.y] 33 := by rw [hW]; exact Box.new (by simp)
  have hw : Below w.heap.size w W1 := by rw [hW]; go_grown
  clear hW
  refine (c1 _).mono ?_
  rintro e w2 ⟨rfl, hb⟩
  replace Ba := Ba.ext hb rfl
  replace Bb := Bb.ext hb rfl
  replace hw := hw.trans (hb.mono hw.size)
  clear hb
  obtain ⟨xa, ya, za, va⟩ := Ba.facts
  obtain ⟨xb, yb, zb, vb⟩ := Bb.facts
  go_wp2_with fail
  clear xa ya za va xb yb zb vb
  refine at_call fun W3 hW => ?_
  obtain ⟨bkv, hbv⟩ : ∃ b, w2.heap.size = b := ⟨_, rfl⟩
  rw [hbv]
  have lav := Ba.lt
  rw [hbv] at lav
  have lbv := Bb.lt
  rw [hbv] at lbv
  have fv := hw.size
  rw [hbv] at fv
  have Bv : Box W3 bkv [.int .i64 (mkW a b 1).A.x, .int .i64 (mkW a b 1).A.y, .int .i64 (mkW a b 1).B.x, .int .i64 (mkW a b 1).B.y, .int .i64 (mkW a b 1).K] 35 := by rw [hW]; exact Box.new hbv.symm
  replace Ba : Box W3 (w.heap.size) [.int .i64 a.x, .int .i64 a.y] 33 := by rw [hW]; exact Ba.old _
  replace Bb : Box W3 (w.heap.size + 1) [.int .i64 b.x, .int .i64 b.y] 33 := by rw [hW]; exact Bb.old _
  replace hw : Below w.heap.size w W3 := by have hl := hw.size; rw [hW]; go_grown
  clear hW hbv
  have SS := S.ext hw rfl
  have ck := kind_any sb a0 c n L a b W3 SS
  generalize kindW L (lo2 a b) (hi2 a b) = kk at *
  refine (ck).mono ?_
  rintro e w4 ⟨rfl, hb⟩
  replace Ba := Ba.ext hb rfl
  replace Bb := Bb.ext hb rfl
  replace Bv := Bv.ext hb rfl
  replace hw := hw.trans (hb.mono hw.size)
  clear hb
  obtain ⟨xa, ya, za, va⟩ := Ba.facts
  obtain ⟨xb, yb, zb, vb⟩ := Bb.facts
  obtain ⟨xv, yv, zv, vv⟩ := Bv.facts
  rw [show mkW a b 1 = ⟨lo2 a b, hi2 a b, 1⟩ by unfold mkW; rw [ho]; rfl] at *
  generalize lo2 a b = p at *
  generalize hi2 a b = q at *
  go_wp2_with fail
  clear xa ya za va xb yb zb vb xv yv zv vv
  have cc : ∀ d os, Calls Try.prog 44 #[.pointer (some ⟨sb, 0, none⟩), .agg #[.int .i64 q.x, .int .i64 q.y]] (grow (redrawn w4 d) os) fun e w' => e = .returned (.slice a0 (bgL L q).length c) ∧ Below (grow (redrawn w4 d) os).heap.size (grow (redrawn w4 d) os) w' := fun d os => begun_any sb a0 c n L q _ ((S.ext hw rfl).ext (below_regrown w4 d os) rfl)
  obtain ⟨_, hb2, hb3⟩ := bg_spec S.ris q
  have hLb : (bgL L q).length ≤ 1000000 := Nat.le_trans hb2 S.le
  have hR : ∀ W, Below w.heap.size w W → RowAt cW 5 W a0 (bgL L q) := fun W hW => by rw [← hb3]; exact (S.row.ext hW rfl).take _
  generalize bgL L q = L2 at *
  have ga := Ba.cells
  have gb := Bb.cells
  have gv := Bv.cells
  refine wp_region_tail 5 (by kernel_rfl) (by kernel_rfl) (C := fun w' => ∃ p : Regrown, w' = grow (redrawn w4 p.d) p.os) (fun w' h => regrown_of_below h) ?_
  simp only [List.take_succ_cons, List.take_zero, List.drop_succ_cons, List.drop_zero]
  repeat (first | (refine rWalk_skip (Eq.refl false) ?_; simp only [Act.put, List.setIfInBounds_toArray, List.set_cons_succ, List.set_cons_zero]) | (refine rWalk_step (fun K hK => ?_); go_simp; first | (refine hK _ ?_; clear hK K) | (apply Exists.intro; refine ⟨fun _ => ?_, hK _ ?_⟩; (first | with_reducible exact toExt2 cc _ _); clear hK K)))
  refine rWalk_nil ?_
  intro w5 hb
  clear ga gb gv
  replace Ba := Ba.ext hb rfl
  replace Bb := Bb.ext hb rfl
  replace Bv := Bv.ext hb rfl
  replace hw := hw.trans (hb.mono hw.size)
  obtain ⟨xa, ya, za, va⟩ := Ba.facts
  obtain ⟨xb, yb, zb, vb⟩ := Bb.facts
  obtain ⟨xv, yv, zv, vv⟩ := Bv.facts
  go_wp2_with fail
  clear xa ya za va xb yb zb vb xv yv zv vv
  have cb := bars_any ⟨p, q, 1⟩ a0 c L2.length L2 rfl hLb S.flat _ (hR _ hw)
  rw [hx7] at cb
  refine (cb).mono ?_
  rintro e w6 ⟨rfl, hb⟩
  replace Ba := Ba.ext hb rfl
  replace Bb := Bb.ext hb rfl
  replace Bv := Bv.ext hb rfl
  replace hw := hw.trans (hb.mono hw.size)
  clear hb
  obtain ⟨xa, ya, za, va⟩ := Ba.facts
  obtain ⟨xb, yb, zb, vb⟩ := Bb.facts
  obtain ⟨xv, yv, zv, vv⟩ := Bv.facts
  go_wp2
  go_ret
  exact ⟨rfl, by have hl := hw.size; go_grown⟩

set_option maxHeartbeats 1000000 in
theorem clash_3 (sb : Nat) (a0 : Option Addr) (c n : Nat) (L : List Wl) (a b : Pt) (ho : mkOk a b 1 = true) (hk : (kindW L (lo2 a b) (hi2 a b) != 0) = false) (hx7 : (bgL L (hi2 a b)).any (fun x => bar1 x ⟨lo2 a b, hi2 a b, 1⟩) = false) (w : World) (S : SetRd w sb a0 c n L) :
    Calls Try.prog 18 #[.pointer (some ⟨sb, 0, none⟩), .agg #[.int .i64 a.x, .int .i64 a.y], .agg #[.int .i64 b.x, .int .i64 b.y]] w fun e w' => e = .returned (.int .i64 0) ∧ Below w.heap.size w w' := by
  go_enter Try.func18, Try.ntmps18
  have hsb := S.box.lt
  have c1 := make_any a b 1
  rw [ho] at c1
  go_wp2_with fail
  refine at_call fun W1 hW => ?_
  have Ba : Box W1 (w.heap.size) [.int .i64 a.x, .int .i64 a.y] 33 := by rw [hW]; exact (Box.new rfl).old _
  have Bb : Box W1 (w.heap.size + 1) [.int .i64 b.x, .int .i64 b.y] 33 := by rw [hW]; exact Box.new (by simp)
  have hw : Below w.heap.size w W1 := by rw [hW]; go_grown
  clear hW
  refine (c1 _).mono ?_
  rintro e w2 ⟨rfl, hb⟩
  replace Ba := Ba.ext hb rfl
  replace Bb := Bb.ext hb rfl
  replace hw := hw.trans (hb.mono hw.size)
  clear hb
  obtain ⟨xa, ya, za, va⟩ := Ba.facts
  obtain ⟨xb, yb, zb, vb⟩ := Bb.facts
  go_wp2_with fail
  clear xa ya za va xb yb zb vb
  refine at_call fun W3 hW => ?_
  obtain ⟨bkv, hbv⟩ : ∃ b, w2.heap.size = b := ⟨_, rfl⟩
  rw [hbv]
  have lav := Ba.lt
  rw [hbv] at lav
  have lbv := Bb.lt
  rw [hbv] at lbv
  have fv := hw.size
  rw [hbv] at fv
  have Bv : Box W3 bkv [.int .i64 (mkW a b 1).A.x, .int .i64 (mkW a b 1).A.y, .int .i64 (mkW a b 1).B.x, .int .i64 (mkW a b 1).B.y, .int .i64 (mkW a b 1).K] 35 := by rw [hW]; exact Box.new hbv.symm
  replace Ba : Box W3 (w.heap.size) [.int .i64 a.x, .int .i64 a.y] 33 := by rw [hW]; exact Ba.old _
  replace Bb : Box W3 (w.heap.size + 1) [.int .i64 b.x, .int .i64 b.y] 33 := by rw [hW]; exact Bb.old _
  replace hw : Below w.heap.size w W3 := by have hl := hw.size; rw [hW]; go_grown
  clear hW hbv
  have SS := S.ext hw rfl
  have ck := kind_any sb a0 c n L a b W3 SS
  generalize kindW L (lo2 a b) (hi2 a b) = kk at *
  refine (ck).mono ?_
  rintro e w4 ⟨rfl, hb⟩
  replace Ba := Ba.ext hb rfl
  replace Bb := Bb.ext hb rfl
  replace Bv := Bv.ext hb rfl
  replace hw := hw.trans (hb.mono hw.size)
  clear hb
  obtain ⟨xa, ya, za, va⟩ := Ba.facts
  obtain ⟨xb, yb, zb, vb⟩ := Bb.facts
  obtain ⟨xv, yv, zv, vv⟩ := Bv.facts
  rw [show mkW a b 1 = ⟨lo2 a b, hi2 a b, 1⟩ by unfold mkW; rw [ho]; rfl] at *
  generalize lo2 a b = p at *
  generalize hi2 a b = q at *
  go_wp2_with fail
  clear xa ya za va xb yb zb vb xv yv zv vv
  have cc : ∀ d os, Calls Try.prog 44 #[.pointer (some ⟨sb, 0, none⟩), .agg #[.int .i64 q.x, .int .i64 q.y]] (grow (redrawn w4 d) os) fun e w' => e = .returned (.slice a0 (bgL L q).length c) ∧ Below (grow (redrawn w4 d) os).heap.size (grow (redrawn w4 d) os) w' := fun d os => begun_any sb a0 c n L q _ ((S.ext hw rfl).ext (below_regrown w4 d os) rfl)
  obtain ⟨_, hb2, hb3⟩ := bg_spec S.ris q
  have hLb : (bgL L q).length ≤ 1000000 := Nat.le_trans hb2 S.le
  have hR : ∀ W, Below w.heap.size w W → RowAt cW 5 W a0 (bgL L q) := fun W hW => by rw [← hb3]; exact (S.row.ext hW rfl).take _
  generalize bgL L q = L2 at *
  have ga := Ba.cells
  have gb := Bb.cells
  have gv := Bv.cells
  refine wp_region_tail 5 (by kernel_rfl) (by kernel_rfl) (C := fun w' => ∃ p : Regrown, w' = grow (redrawn w4 p.d) p.os) (fun w' h => regrown_of_below h) ?_
  simp only [List.take_succ_cons, List.take_zero, List.drop_succ_cons, List.drop_zero]
  repeat (first | (refine rWalk_skip (Eq.refl false) ?_; simp only [Act.put, List.setIfInBounds_toArray, List.set_cons_succ, List.set_cons_zero]) | (refine rWalk_step (fun K hK => ?_); go_simp; first | (refine hK _ ?_; clear hK K) | (apply Exists.intro; refine ⟨fun _ => ?_, hK _ ?_⟩; (first | with_reducible exact toExt2 cc _ _); clear hK K)))
  refine rWalk_nil ?_
  intro w5 hb
  clear ga gb gv
  replace Ba := Ba.ext hb rfl
  replace Bb := Bb.ext hb rfl
  replace Bv := Bv.ext hb rfl
  replace hw := hw.trans (hb.mono hw.size)
  obtain ⟨xa, ya, za, va⟩ := Ba.facts
  obtain ⟨xb, yb, zb, vb⟩ := Bb.facts
  obtain ⟨xv, yv, zv, vv⟩ := Bv.facts
  go_wp2_with fail
  clear xa ya za va xb yb zb vb xv yv zv vv
  have cb := bars_any ⟨p, q, 1⟩ a0 c L2.length L2 rfl hLb S.flat _ (hR _ hw)
  rw [hx7] at cb
  refine (cb).mono ?_
  rintro e w6 ⟨rfl, hb⟩
  replace Ba := Ba.ext hb rfl
  replace Bb := Bb.ext hb rfl
  replace Bv := Bv.ext hb rfl
  replace hw := hw.trans (hb.mono hw.size)
  clear hb
  obtain ⟨xa, ya, za, va⟩ := Ba.facts
  obtain ⟨xb, yb, zb, vb⟩ := Bb.facts
  obtain ⟨xv, yv, zv, vv⟩ := Bv.facts
  go_wp2
  go_ret
  exact ⟨rfl, by have hl := hw.size; go_grown⟩

theorem clash_any (sb : Nat) (a0 : Option Addr) (c n : Nat) (L : List Wl) (a b : Pt) (w : World) (S : SetRd w sb a0 c n L) :
    Calls Try.prog 18 #[.pointer (some ⟨sb, 0, none⟩), .agg #[.int .i64 a.x, .int .i64 a.y], .agg #[.int .i64 b.x, .int .i64 b.y]] w fun e w' => e = .returned (.int .i64 (clashW L a b)) ∧ Below w.heap.size w w' := by
  unfold clashW
  cases ho : mkOk a b 1 with
  | false => rw [if_neg (by simp)]; exact clash_0 sb a0 c n L a b ho w S
  | true =>
    rw [if_pos rfl]
    cases hk : kindW L (lo2 a b) (hi2 a b) != 0 with
    | true => rw [if_neg (by simpa using hk)]; exact clash_1 sb a0 c n L a b ho hk w S
    | false =>
      rw [if_pos (by simpa using hk)]
      cases hb : (bgL L (hi2 a b)).any (fun x => bar1 x ⟨lo2 a b, hi2 a b, 1⟩) with
      | true => rw [if_pos rfl]; exact clash_2 sb a0 c n L a b ho hk hb w S
      | false => rw [if_neg (by simp)]; exact clash_3 sb a0 c n L a b ho hk hb w S
def endW (p : Pt) (x : Wl) : Bool := decide (x.A = p) || decide (x.B = p)
theorem endW_eq (p : Pt) (x : Wl) : endW p x = (peqI x.A.x x.A.y p.x p.y || peqI x.B.x x.B.y p.x p.y) := by rw [peqI_dec, peqI_dec]; rfl
/-- One wall appended to a row of the call's own. -/
theorem append_wl {w : World} {ops : Array Oper} {rest : List Oper} {o : Oper} {a : Act} {Q : Exit → Act → World → Prop} (hgd : o.guard = none) (s x : Operand)
    (ho : o.op = .call { callee := .builtin .append, args := #[s, x], argTypes := #[22, 22] })
    (B : Nat) (v : Value) (L : List Wl) (hs : a.eval s = v) (hown : WRow w B v L)
    (bx : Nat) (X : Wl) (hx : a.eval x = .slice (some ⟨bx, 0, none⟩) 1 1) (hbx : Box w bx (cW X) 35) (hn : L.length ≤ 1000000) (hbase : B ≤ w.heap.size)
    (h : ∀ w' v', WRow w' B v' (L ++ [X]) → w.grownBy w' v.ownBlock → v' ≠ .slice none 0 0 → wpList Try.prog ops Q rest (a.put o.dst v') w') : wpList Try.prog ops Q (o :: rest) a w := by
  obtain ⟨i0, hi, hz0, hz1, hz2⟩ := info_parts info_wall
  refine wpList_append_own w hgd s x 22 ho B 35 i0 _ 5 40 Try.underlying22 hi hz0 hz1 hz2 rfl (by decide) v L.length _ hs hown ⟨bx, 0, none⟩ 1 1 (cW X) hx rfl ?_ (cW_one X) ?_ ?_ hbase ?_
  · intro j u hj
    have := hbx.facts.1 j
    rw [hj] at this
    rw [Addr.add_lit, Nat.zero_add]
    exact this
  · unfold maxLen; omega
  · omega
  · intro v' w' hown' hg hnil
    refine h w' v' ?_ hg (fun e => by have := (hnil.1 e).2; omega)
    unfold WRow
    rw [List.length_append, List.length_singleton, List.flatMap_append]
    simpa using hown'
end Go.Proofs.Ytnocdecimcpkfaa
