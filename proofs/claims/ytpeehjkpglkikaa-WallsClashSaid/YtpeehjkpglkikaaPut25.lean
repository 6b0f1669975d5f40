/- Put together: WalI, WalJ, WalK. -/
import Derived.Test.YtpeehjkpglkikaaRows
import Derived.Test.YtpeehjkpglkikaaPut24
import Derived.Test.YtpeehjkpglkikaaPut2
import Derived.Shelf.Spec.SlicesInsert
import Derived.Lib.AppendZerosOnto
import Derived.Shelf.RegionOpenPlain
import Derived.WalkKit
import Derived.WalkSpells
import Derived.WalkLawsBesides
import Derived.Laws.Externs
import Derived.Deep.QuietTactic
import Derived.BigQuiet
import Derived.Lib.Hide
import Derived.Handy
import Derived.OwnWalk
import Derived.LoopN
import Derived.RegionTactic
import Derived.Deep.AppendLies
namespace Go.Proofs.Ytpeehjkpglkikaa
open Go.RowKit Go.Sort Go.Lib
attribute [local go_sem] rOper rAt rUpon cell_set sg_i64 sg_u64 alloc_cell alloc_frozen
attribute [local go_sem 10000] pt_eql pt_neq wal_eql wal_neq
attribute [local irreducible] rWalk

theorem grownBy_drew {w W : World} {r : Option Nat} (h : w.grownBy W r) : w.grownBy W.drew r := ⟨h.1, h.2, h.3, h.4, h.5⟩
theorem info_wall5 : (Try.prog.info? 35).map (·.size) = some 5 := by kernel_rfl
/-- copy(d, s) where d lies in a block of the call's own. -/
theorem copy_run {w : World} (ty : TypeId) (g o dLen dCap : Nat) (a : Addr) (sLen sCap : Nat) (C cs : List Value) (T : TypeId) (hg : Box w g C T) (hn : cs.length = Nat.min sLen dLen * 5)
    (hsrc : ∀ j v, cs[j]? = some v → w.cell? (a.add j) = some v) (hfit : o + cs.length ≤ C.length) (h1 : ∀ v ∈ cs, v.oneCell' = true) :
    (Builtin.copy_ #[22, 22] ty #[.slice (some ⟨g, o, none⟩) dLen dCap, .slice (some a) sLen sCap]).run Try.prog w =
      .ok (goInt (Nat.min sLen dLen)) (w.setRow g (C.take o ++ cs ++ C.drop (o + cs.length)).toArray) := by
  have hl := run_loadCells_list (P := Try.prog) w a cs hsrc
  have hst := run_storeCells_at Try.prog g o T cs 0 C.toArray w hg (by simpa using hfit) h1
  have hs := info_wall5
  cases hq : Try.prog.info? 35 with
  | none => simp [hq] at hs
  | some i =>
    have hi : i.size = 5 := by simpa [hq] using hs
    simp only [Nat.add_zero] at hst
    simp [Builtin.copy_, run_underlying Try.underlying22, Builtin.lenOf, Builtin.firstCells, sizeOf, typeInfo, hq, hi, ← hn, hl, hst]
theorem Box.setRow {w : World} {g : Nat} {C D : List Value} {T : TypeId} (h : Box w g C T) : Box (w.setRow g D.toArray) g D T := setRow_heap w g _ _ T _ h
theorem shape_box {w : World} {g : Nat} {C : List Value} {T : TypeId} (h : Box w g C T) : w.shape? g = some (T, C.length) := by
  unfold Box at h; simp [World.shape?, h]
theorem apart_run {w : World} {bx g : Nat} {X : Wl} {C : List Value} (hbx : Box w bx (cW X) 35) (hg : Box w g C 35) (hne : bx ≠ g) (hC : C.length ≠ 0) (k la ca lb cb : Nat) :
    (callFunc 64 #[.slice (some ⟨bx, 0, none⟩) la ca, .slice (some ⟨g, k, none⟩) lb cb]).run Try.prog w = .ok (.value (.bool false)) w := by
  rw [run_callFunc_extern Try.func64 (by kernel_rfl) (by kernel_rfl) (by kernel_rfl) (e := Extern.SlicesOverlaps.overlaps #[22, 22] #[4]) (by kernel_rfl),
    Lib.run_overlaps_apart w 22 4 35 Try.underlying22 5 Try.sizeOf35 ⟨bx, 0, none⟩ ⟨g, k, none⟩ la ca lb cb hne _ _ _ _ (shape_box hbx) (shape_box hg) hC (hbx.facts.2.1 _) (hbx.facts.2.1 _)]
  rfl
set_option maxHeartbeats 4000000 in
set_option maxRecDepth 100000 in
/-- Room, not at the end. -/
theorem ins_room (g n c k bx : Nat) (L : List Wl) (X : Wl) (tl : List Value) (w : World) (hn : L.length = n) (hk : k < n) (hc : n + 1 ≤ c) (hc2 : c ≤ maxLen) (htl : tl.length = (c - n) * 5)
    (hg : Box w g (L.flatMap cW ++ tl) 35) (hbx : Box w bx (cW X) 35) (hne : bx ≠ g) :
    Calls Try.prog 39 #[.slice (some ⟨g, 0, none⟩) n c, .int .i64 k, .slice (some ⟨bx, 0, none⟩) 1 1] w fun e w' =>
      e = .returned (.slice (some ⟨g, 0, none⟩) (n + 1) c) ∧ w.grownBy w' (some g) ∧ Box w' g ((L.take k ++ X :: L.drop k).flatMap cW ++ tl.drop 5) 35 := by
  have hov := apart_run hbx hg hne (by rw [List.length_append, flatMap_len cW_len]; omega)
  have hmx : c ≤ 9223372036854775807 := by unfold maxLen at hc2; omega
  have hz1 : ¬ ((k : Int) = (n : Int)) := by omega
  have hA : ((L.take k).flatMap cW).length = k * 5 := by rw [flatMap_len cW_len, List.length_take]; omega
  have hD : ((L.drop k).flatMap cW).length = (n - k) * 5 := by rw [flatMap_len cW_len, List.length_drop, hn]
  have hC : L.flatMap cW = (L.take k).flatMap cW ++ (L.drop k).flatMap cW := by rw [← List.flatMap_append, List.take_append_drop]
  have hR : (L.take k ++ X :: L.drop k).flatMap cW ++ tl.drop 5 = (L.take k).flatMap cW ++ (cW X ++ ((L.drop k).flatMap cW ++ tl.drop 5)) := by
    rw [List.flatMap_append, List.flatMap_cons]; simp only [List.append_assoc]
  have h1D : ∀ v ∈ (L.drop k).flatMap cW, v.oneCell' = true := fun u hu => by
    obtain ⟨x, _, hx⟩ := List.mem_flatMap.1 hu
    exact cW_one x u hx
  rw [hR]
  rw [hC, List.append_assoc] at hg
  clear hR hC
  generalize (L.take k).flatMap cW = A at *
  generalize (L.drop k).flatMap cW = D at *
  have hmin : Nat.min (n + 1 - k) (n - k) = n - k := by simp only [Nat.min_def]; split <;> omega
  have e1 : (A ++ (D ++ tl)).take ((k + 1) * 5) ++ D ++ (A ++ (D ++ tl)).drop ((k + 1) * 5 + D.length) = A ++ ((D ++ tl).take 5 ++ (D ++ tl.drop 5)) := by
    rw [show (k + 1) * 5 = A.length + 5 by omega, List.take_length_add_append, show A.length + 5 + D.length = A.length + (D.length + 5) by omega, List.drop_length_add_append, List.drop_length_add_append]
    simp only [List.append_assoc]
  have hY : ((D ++ tl).take 5).length = 5 := by rw [List.length_take, List.length_append]; omega
  generalize hYe : (D ++ tl).take 5 = Y at *
  have e2 : (A ++ (Y ++ (D ++ tl.drop 5))).take (k * 5) ++ cW X ++ (A ++ (Y ++ (D ++ tl.drop 5))).drop (k * 5 + (cW X).length) = A ++ (cW X ++ (D ++ tl.drop 5)) := by
    rw [← hA, List.take_left, cW_len, List.drop_length_add_append, ← hY, List.drop_left]; simp only [List.append_assoc]
  have hcp1 := fun (ty : TypeId) (dc sc : Nat) => copy_run (w := w.drew) ty g ((k + 1) * 5) (n - k) dc ⟨g, k * 5, none⟩ (n + 1 - k) sc _ D _ hg.drew (by rw [hmin, hD]) (fun j v hj => by
    rw [Addr.add_lit, hg.drew.facts.1, ← hA, List.getElem?_append_right (by omega), show A.length + j - A.length = j by omega, List.getElem?_append_left (List.getElem?_eq_some_iff.1 hj).1]; exact hj)
    (by simp only [List.length_append]; omega) h1D
  rw [e1, hmin] at hcp1
  have hg1 : Box (w.drew.setRow g (A ++ (Y ++ (D ++ tl.drop 5))).toArray) g (A ++ (Y ++ (D ++ tl.drop 5))) 35 := hg.drew.setRow
  have hbx1 : Box (w.drew.setRow g (A ++ (Y ++ (D ++ tl.drop 5))).toArray) bx (cW X) 35 := by
    unfold Box; rw [setRow_other _ _ _ _ hne]; exact hbx
  have hgr : w.grownBy (w.drew.setRow g (A ++ (Y ++ (D ++ tl.drop 5))).toArray) (some g) := ⟨rfl, rfl, rfl, by simp [World.setRow], fun q _ hq => setRow_other _ _ _ _ (fun e => hq (by rw [e]))⟩
  have hcp2 := fun (W : World) (h1 : Box W g (A ++ (Y ++ (D ++ tl.drop 5))) 35) (h2 : Box W bx (cW X) 35) (ty : TypeId) (dc : Nat) => copy_run (w := W) ty g (k * 5) (n + 1 - k) dc ⟨bx, 0, none⟩ 1 1 _ (cW X) _ h1 (by rw [cW_len, show Nat.min 1 (n + 1 - k) = 1 by simp only [Nat.min_def]; split <;> omega]) (fun j v hj => by
    rw [Addr.add_lit, h2.facts.1, Nat.zero_add]; exact hj) (by simp only [List.length_append, cW_len]; omega) (cW_one X)
  rw [e2] at hcp2
  have hfin : ∀ W : World, Box W g (A ++ (Y ++ (D ++ tl.drop 5))) 35 → w.grownBy W (some g) → w.grownBy (W.setRow g (A ++ (cW X ++ (D ++ tl.drop 5))).toArray) (some g) ∧ Box (W.setRow g (A ++ (cW X ++ (D ++ tl.drop 5))).toArray) g (A ++ (cW X ++ (D ++ tl.drop 5))) 35 := fun W h1 h2 =>
    let ⟨a1, a2, a3, a4, a5⟩ := h2
    ⟨⟨a1, a2, a3, by simpa [World.setRow] using a4, fun q hq hne2 => by rw [setRow_other _ _ _ _ (fun e => hne2 (by rw [e]))]; exact a5 q hq hne2⟩, h1.setRow⟩
  obtain ⟨R1, hR1⟩ : ∃ R : Array Value, R = (A ++ (Y ++ (D ++ tl.drop 5))).toArray := ⟨_, rfl⟩
  obtain ⟨R2, hR2⟩ : ∃ R : Array Value, R = (A ++ (cW X ++ (D ++ tl.drop 5))).toArray := ⟨_, rfl⟩
  rw [← hR1] at hcp1 hg1 hbx1 hgr
  rw [← hR2] at hcp2 hfin
  clear hR1 hR2
  have HF := Lib.hid hfin
  have HG := Lib.hid hgr
  have H1 := Lib.hid hg1
  have HB := Lib.hid hbx1
  clear hg hbx hfin hgr hg1 hbx1 e1 e2 hYe hA hD hY h1D htl
  have mixed : Try.prog.follows .mixedOrders = true := by kernel_rfl
  have hw1 : IntKind.i64.wrap ((k : Int) + 1) = (k : Int) + 1 := by rw [IntKind.wrap_i64]; omega
  have hb1 : (0 : Int) ≤ (k : Int) + 1 := by omega
  have htn : ((k : Int) + 1).toNat = k + 1 := by omega
  have hb2 : ¬ (c = k + 1) := by omega
  have hb3 : (k : Int) ≤ (n : Int) + 1 := by omega
  have hb4 : ¬ (c = k) := by omega
  have hb5 : k ≤ n := by omega
  have hb6 : (k : Int) + 1 ≤ (n : Int) + 1 := by omega
  go_enter Try.func39, Try.ntmps39
  go_wp2_with (simp only [hov])
  go_region_law_o (refine step_copy_runI rfl _ _ 22 22 rfl _ _ (by simp [Act.eval, Act.put]) (by simp [Act.eval, Act.put]) (hcp1 _ _ _) ?_)
  go_wp2_with (refine wpList_copy_runI _ rfl _ _ 22 22 rfl _ _ rfl rfl (hcp2 _ H1.out HB.out _ _) ?_)
  go_ret
  exact ⟨rfl, HF.out _ H1.out HG.out⟩
set_option maxHeartbeats 4000000 in
set_option maxRecDepth 100000 in
/-- No room, not at the end. -/
theorem ins_grow (g n c k bx : Nat) (L : List Wl) (X : Wl) (tl : List Value) (w : World) (hn : L.length = n) (hk : k < n) (hc : c < n + 1) (hc2 : n ≤ c) (hL : n ≤ 1000000)
    (hg : Box w g (L.flatMap cW ++ tl) 35) (hbx : Box w bx (cW X) 35) :
    Calls Try.prog 39 #[.slice (some ⟨g, 0, none⟩) n c, .int .i64 k, .slice (some ⟨bx, 0, none⟩) 1 1] w fun e w' =>
      ∃ G tl', e = .returned (.slice (some ⟨w.heap.size, 0, none⟩) (n + 1) G) ∧ w.grownBy w' none ∧ n + 1 ≤ G ∧ G ≤ maxLen ∧ tl'.length = (G - (n + 1)) * 5 ∧ Box w' w.heap.size ((L.take k ++ X :: L.drop k).flatMap cW ++ tl') 35 := by
  obtain ⟨i0, hi0, hz0, hzs, hzb⟩ := info_parts info_wall
  have hA : ((L.take k).flatMap cW).length = k * 5 := by rw [flatMap_len cW_len, List.length_take]; omega
  have hD : ((L.drop k).flatMap cW).length = (n - k) * 5 := by rw [flatMap_len cW_len, List.length_drop, hn]
  have hC : L.flatMap cW = (L.take k).flatMap cW ++ (L.drop k).flatMap cW := by rw [← List.flatMap_append, List.take_append_drop]
  have hR : ∀ tl', (L.take k ++ X :: L.drop k).flatMap cW ++ tl' = (L.take k).flatMap cW ++ (cW X ++ ((L.drop k).flatMap cW ++ tl')) := fun tl' => by
    rw [List.flatMap_append, List.flatMap_cons]; simp only [List.append_assoc]
  have h1D : ∀ v ∈ (L.drop k).flatMap cW, v.oneCell' = true := fun u hu => by
    obtain ⟨x, _, hx⟩ := List.mem_flatMap.1 hu
    exact cW_one x u hx
  simp only [hR]
  rw [hC, List.append_assoc] at hg
  clear hR hC
  generalize (L.take k).flatMap cW = A at *
  generalize (L.drop k).flatMap cW = D at *
  have hgw := hg.lt
  have hbw := hbx.lt
  have hik : k + (n + 1 - k) = n + 1 := by omega
  have hold : (Builtin.firstCells i0.size k (.slice (some ⟨g, 0, none⟩) k c)).run Try.prog w.drew = .ok A.toArray w.drew := by
    rw [hzs]
    exact run_firstCells_some w.drew 5 k ⟨g, 0, none⟩ k c A hA (fun j v hj => by
      rw [Addr.add_lit, hg.drew.facts.1, Nat.zero_add, List.getElem?_append_left (List.getElem?_eq_some_iff.1 hj).1]; exact hj)
  obtain ⟨G, hG⟩ : ∃ G, G = grownCap w (n + 1) c 35 := ⟨_, rfl⟩
  have hGn : n + 1 ≤ G := by rw [hG]; exact grownCap_ge w _ _ _
  have hGm : G ≤ maxLen := by rw [hG]; exact grownCap_le_maxLen w _ _ _ (by unfold maxLen; omega)
  obtain ⟨Z, hZ⟩ : ∃ Z, Z = (Builtin.zeroCells (Value.agg #[.int .i64 0, .int .i64 0, .int .i64 0, .int .i64 0, .int .i64 0]).cells (n + 1 - k)).toList ++ (Builtin.zeroCells (Value.agg #[.int .i64 0, .int .i64 0, .int .i64 0, .int .i64 0, .int .i64 0]).cells (G - (n + 1))).toList := ⟨_, rfl⟩
  have hZl : Z.length = (G - k) * 5 := by
    rw [hZ]; simp only [List.length_append, Array.length_toList, size_zeroCells, Value.cells]; simp; omega
  have hrz : ∀ ty, (Builtin.append_ #[22, 3] ty #[.slice (some ⟨g, 0, none⟩) k c, .int .i64 ((n : Int) + 1 - (k : Int))]).run Try.prog w =
      .ok (.slice (some ⟨w.heap.size, 0, none⟩) (n + 1) G) (w.drew.alloc (.cells (A ++ Z).toArray 35)) := fun ty => by
    have h := Lib.run_append_grow_zeros w 22 3 ty 35 i0 _ .i64 .i64 Try.underlying22 Try.underlying3 hi0 hz0 (some ⟨g, 0, none⟩) k c A hold (n + 1 - k) (by omega) (by omega) (by omega) (by omega) (by rw [hzb]; omega) (by rw [hzb, hik]; exact growslice_fits hc (by omega))
    rw [hik, ← hG] at h
    rw [show (n : Int) + 1 - (k : Int) = ((n + 1 - k : Nat) : Int) by omega, hZ]
    rw [h]
    congr 3
    apply Array.ext'
    simp
  obtain ⟨R0, hR0⟩ : ∃ R : Array Value, R = (A ++ Z).toArray := ⟨_, rfl⟩
  have e1 : (A ++ Z).take (k * 5) ++ cW X ++ (A ++ Z).drop (k * 5 + (cW X).length) = A ++ (cW X ++ Z.drop 5) := by
    rw [← hA, List.take_left, List.drop_length_add_append, cW_len]; simp only [List.append_assoc]
  have e2 : (A ++ (cW X ++ Z.drop 5)).take ((k + 1) * 5) ++ D ++ (A ++ (cW X ++ Z.drop 5)).drop ((k + 1) * 5 + D.length) = A ++ (cW X ++ (D ++ (Z.drop 5).drop D.length)) := by
    rw [← List.append_assoc, show (k + 1) * 5 = (A ++ cW X).length by rw [List.length_append, cW_len]; omega, List.take_left, List.drop_length_add_append]; simp only [List.append_assoc]
  have hb0 : Box (w.drew.alloc (.cells R0 35)) w.heap.size (A ++ Z) 35 := by rw [hR0]; exact Box.new rfl
  have hbx0 := (hbx.drew).old (.cells R0 35)
  have hg0 := (hg.drew).old (.cells R0 35)
  rw [← hR0] at hrz
  have hcpA := fun (W : World) (h1 : Box W w.heap.size (A ++ Z) 35) (h2 : Box W bx (cW X) 35) (ty : TypeId) (dc : Nat) => copy_run (w := W) ty w.heap.size (k * 5) (n + 1 - k) dc ⟨bx, 0, none⟩ 1 1 _ (cW X) _ h1 (by rw [cW_len, show Nat.min 1 (n + 1 - k) = 1 by simp only [Nat.min_def]; split <;> omega]) (fun j v hj => by
    rw [Addr.add_lit, h2.facts.1, Nat.zero_add]; exact hj) (by simp only [List.length_append, cW_len]; omega) (cW_one X)
  rw [e1] at hcpA
  have hcpB := fun (W : World) (h1 : Box W w.heap.size (A ++ (cW X ++ Z.drop 5)) 35) (h2 : Box W g (A ++ (D ++ tl)) 35) (ty : TypeId) (dc sc : Nat) => copy_run (w := W) ty w.heap.size ((k + 1) * 5) (n - k) dc ⟨g, k * 5, none⟩ (n - k) sc _ D _ h1 (by rw [hD, show Nat.min (n - k) (n - k) = n - k by simp]) (fun j v hj => by
    rw [Addr.add_lit, h2.facts.1, ← hA, List.getElem?_append_right (by omega), show A.length + j - A.length = j by omega, List.getElem?_append_left (List.getElem?_eq_some_iff.1 hj).1]; exact hj) (by simp only [List.length_append, List.length_drop, cW_len]; omega) h1D
  rw [e2] at hcpB
  obtain ⟨R1, hR1⟩ : ∃ R : Array Value, R = (A ++ (cW X ++ Z.drop 5)).toArray := ⟨_, rfl⟩
  obtain ⟨R2, hR2⟩ : ∃ R : Array Value, R = (A ++ (cW X ++ (D ++ (Z.drop 5).drop D.length))).toArray := ⟨_, rfl⟩
  rw [← hR1] at hcpA
  rw [← hR2] at hcpB
  have hset1 : ∀ W : World, Box W w.heap.size (A ++ Z) 35 → Box (W.setRow w.heap.size R1) w.heap.size (A ++ (cW X ++ Z.drop 5)) 35 := fun W h => by rw [hR1]; exact h.setRow
  have hset2 : ∀ W : World, Box W w.heap.size (A ++ (cW X ++ Z.drop 5)) 35 → Box (W.setRow w.heap.size R2) w.heap.size (A ++ (cW X ++ (D ++ (Z.drop 5).drop D.length))) 35 := fun W h => by rw [hR2]; exact h.setRow
  have hne : g ≠ w.heap.size := by omega
  have hkeep : ∀ (W : World) (R : Array Value), Box W g (A ++ (D ++ tl)) 35 → Box (W.setRow w.heap.size R) g (A ++ (D ++ tl)) 35 := fun W R h => by
    unfold Box; rw [setRow_other _ _ _ _ hne]; exact h
  have hgrow : ∀ (W : World) (R : Array Value), w.grownBy W none → w.grownBy (W.setRow w.heap.size R) none := fun W R ⟨a1, a2, a3, a4, a5⟩ =>
    ⟨a1, a2, a3, by simpa [World.setRow] using a4, fun q hq hq2 => by rw [setRow_other _ _ _ _ (by omega)]; exact a5 q hq hq2⟩
  have hgr0 : w.grownBy (w.drew.alloc (.cells R0 35)) none := ⟨rfl, rfl, rfl, by simp, fun q hq _ => (by first | exact heap_alloc_old w.drew _ q hq | exact heap_alloc_old w.drew _ hq)⟩
  have htl : ((Z.drop 5).drop D.length).length = (G - (n + 1)) * 5 := by rw [List.length_drop, List.length_drop]; omega
  have HF := Lib.hid (And.intro hset1 (And.intro hset2 (And.intro hkeep hgrow)))
  have H0 := Lib.hid (And.intro hb0 (And.intro hbx0 (And.intro hg0 hgr0)))
  have HT := Lib.hid htl
  have HGm := Lib.hid hGm
  have hG63 : G ≤ 9223372036854775807 := by unfold maxLen at hGm; omega
  have hGi : ¬ (G = k) := by omega
  have hGim : ¬ (G = k + 1) := by omega
  have hci : ¬ (c = k) := by omega
  have hw1 : IntKind.i64.wrap ((k : Int) + 1) = (k : Int) + 1 := by rw [IntKind.wrap_i64]; omega
  have hb1 : (0 : Int) ≤ (k : Int) + 1 := by omega
  have htn : ((k : Int) + 1).toNat = k + 1 := by omega
  have hb3 : (k : Int) ≤ (n : Int) + 1 := by omega
  have hb5 : k ≤ n := by omega
  have hb6 : (k : Int) + 1 ≤ (n : Int) + 1 := by omega
  have hb7 : (k : Int) ≤ (n : Int) := by omega
  have hz1 : ¬ ((k : Int) = (n : Int)) := by omega
  have hz2 : (c : Int) < (n : Int) + 1 := by omega
  have mixed : Try.prog.follows .mixedOrders = true := by kernel_rfl
  clear hR0 hR1 hR2 hG hZ hset1 hset2 hkeep hgrow hgr0 hb0 hbx0 hg0 htl hGm hg hbx e1 e2 hA hD h1D hZl hold hi0 hz0 hzs hzb i0
  go_enter Try.func39, Try.ntmps39
  go_wp2_with (first
    | (at_builtin; refine Lib.wpList_append_run _ rfl _ _ _ _ rfl _ _ rfl rfl _ _ (hrz _) ?_)
    | (refine wpList_copy_runI _ rfl _ _ 22 22 rfl _ _ rfl rfl (hcpA _ H0.out.1 H0.out.2.1 _ _) ?_))
  go_region_law_o (refine step_copy_runI rfl _ _ 22 22 rfl (.slice (some ⟨w.heap.size, (k + 1) * 5, none⟩) (n - k) (G - (k + 1))) (.slice (some ⟨g, k * 5, none⟩) (n - k) (c - k)) (by simp [Act.eval, Act.put]) (by simp [Act.eval, Act.put]) (hcpB _ (HF.out.1 _ H0.out.1).drew (HF.out.2.2.1 _ _ H0.out.2.2.1).drew 3 (G - (k + 1)) (c - k)) ?_)
  go_wp2
  go_ret
  exact ⟨G, _, rfl, HF.out.2.2.2 _ _ (grownBy_drew (HF.out.2.2.2 _ _ H0.out.2.2.2)), hGn, HGm.out, HT.out, HF.out.2.1 _ (HF.out.1 _ H0.out.1)⟩
end Go.Proofs.Ytpeehjkpglkikaa

namespace Go.Proofs.Ytpeehjkpglkikaa
open Go.RowKit Go.Sort Go.Lib
attribute [local go_sem] rOper rAt rUpon cell_set sg_i64 sg_u64 alloc_cell alloc_frozen
attribute [local go_sem 10000] pt_eql pt_neq wal_eql wal_neq
attribute [local irreducible] rWalk

/-- The row's block is the old one, or new. -/
def Fresh (v v' : Value) (n : Nat) : Prop := ∀ g, v'.ownBlock = some g → v.ownBlock = some g ∨ n ≤ g
theorem append_wl2 {w : World} {ops : Array Oper} {rest : List Oper} {o : Oper} {a : Act} {Q : Exit → Act → World → Prop} (hgd : o.guard = none) (s x : Operand)
    (ho : o.op = .call { callee := .builtin .append, args := #[s, x], argTypes := #[22, 22] })
    (B : Nat) (v : Value) (L : List Wl) (hs : a.eval s = v) (hown : WRow w B v L)
    (bx : Nat) (X : Wl) (hx : a.eval x = .slice (some ⟨bx, 0, none⟩) 1 1) (hbx : Box w bx (cW X) 35) (hn : L.length ≤ 1000000) (hbase : B ≤ w.heap.size)
    (h : ∀ w' v', WRow w' B v' (L ++ [X]) → w.grownBy w' v.ownBlock → Fresh v v' w.heap.size → wpList Try.prog ops Q rest (a.put o.dst v') w') : wpList Try.prog ops Q (o :: rest) a w := by
  obtain ⟨i0, hi, hz0, hz1, hz2⟩ := info_parts info_wall
  refine wpList_append_lies w hgd s x 22 ho B 35 i0 _ 5 40 Try.underlying22 hi hz0 hz1 hz2 rfl (by decide) v L.length _ hs hown ⟨bx, 0, none⟩ 1 1 (cW X) hx rfl ?_ (cW_one X) (by decide) ?_ ?_ hbase _ rfl ?_
  · intro j u hj
    have := hbx.facts.1 j
    rw [hj] at this
    rw [Addr.add_lit, Nat.zero_add]
    exact this
  · unfold maxLen; omega
  · omega
  · intro g cap w' hown' hg hf _
    refine h w' _ ?_ hg (fun g' e => ?_)
    · unfold WRow
      rw [List.length_append, List.length_singleton, List.flatMap_append]
      simpa using hown'
    · simp only [Value.ownBlock, Option.some.injEq] at e
      subst e
      rcases hf with hf | hf
      · exact .inl hf
      · exact .inr (by omega)
set_option maxHeartbeats 1000000 in
theorem ins_end0 (B bx : Nat) (X : Wl) (w : World) (hB : B ≤ w.heap.size) (hbx : Box w bx (cW X) 35) :
    Calls Try.prog 39 #[.slice none 0 0, .int .i64 0, .slice (some ⟨bx, 0, none⟩) 1 1] w fun e w' =>
      ∃ v', e = .returned v' ∧ WRow w' B v' [X] ∧ w.grownBy w' none ∧ Fresh (.slice none 0 0) v' w.heap.size := by
  have hown := WRow.nil0 w B
  go_enter Try.func39, Try.ntmps39
  go_wp2_with (at_builtin; refine append_wl2 rfl _ _ rfl B _ [] rfl hown bx X rfl hbx (Nat.zero_le _) hB ?_; intro w4 v4 hown4 hg4 hf4)
  go_ret
  exact ⟨_, rfl, hown4, hg4, hf4⟩
set_option maxHeartbeats 1000000 in
theorem ins_end (B g n c bx : Nat) (L : List Wl) (X : Wl) (w : World) (hn : L.length = n) (hL : n ≤ 1000000) (hc : n ≤ c) (hown : WRow w B (.slice (some ⟨g, 0, none⟩) n c) L) (hB : B ≤ w.heap.size) (hbx : Box w bx (cW X) 35) :
    Calls Try.prog 39 #[.slice (some ⟨g, 0, none⟩) n c, .int .i64 n, .slice (some ⟨bx, 0, none⟩) 1 1] w fun e w' =>
      ∃ v', e = .returned v' ∧ WRow w' B v' (L ++ [X]) ∧ w.grownBy w' (some g) ∧ Fresh (.slice (some ⟨g, 0, none⟩) n c) v' w.heap.size := by
  have hL2 : L.length ≤ 1000000 := by omega
  have hcap : c ≤ 9223372036854775807 := by
    rcases hown.box with ⟨h, _⟩ | ⟨_, _, _, h, _, _, _, h2, _⟩
    · cases h
    · simp only [Value.slice.injEq] at h; unfold maxLen at h2; omega
  by_cases hcn : c = n
  · subst hcn
    go_enter Try.func39, Try.ntmps39
    go_wp2_with (at_builtin; refine append_wl2 rfl _ _ rfl B _ L rfl hown bx X rfl hbx hL2 hB ?_; intro w4 v4 hown4 hg4 hf4)
    go_ret
    exact ⟨_, rfl, hown4, hg4, hf4⟩
  · go_enter Try.func39, Try.ntmps39
    go_wp2_with (at_builtin; refine append_wl2 rfl _ _ rfl B _ L rfl hown bx X rfl hbx hL2 hB ?_; intro w4 v4 hown4 hg4 hf4)
    go_ret
    exact ⟨_, rfl, hown4, hg4, hf4⟩
/-- slices.Insert of one wall. -/
theorem ins_any (B : Nat) (v : Value) (k bx : Nat) (L : List Wl) (X : Wl) (w : World) (hk : k ≤ L.length) (hL : L.length ≤ 1000000) (hown : WRow w B v L) (hB : B ≤ w.heap.size) (hbx : Box w bx (cW X) 35) (hne : v.ownBlock ≠ some bx) :
    Calls Try.prog 39 #[v, .int .i64 k, .slice (some ⟨bx, 0, none⟩) 1 1] w fun e w' =>
      ∃ v', e = .returned v' ∧ WRow w' B v' (L.take k ++ X :: L.drop k) ∧ w.grownBy w' v.ownBlock ∧ Fresh v v' w.heap.size := by
  have hlen : k ≤ L.length → (L.take k ++ X :: L.drop k).length = L.length + 1 := fun h => by simp only [List.length_append, List.length_cons, List.length_take, List.length_drop]; omega
  rcases hown.box with ⟨rfl, rfl⟩ | ⟨g, cap, tl, rfl, hBg, hg, h1, h2, h3⟩
  · obtain rfl : k = 0 := by simpa using hk
    exact ins_end0 B bx X w hB hbx
  · rcases Nat.eq_or_lt_of_le hk with rfl | hk2
    · rw [List.take_length, List.drop_length]
      exact ins_end B g L.length cap bx L X w rfl hL h1 hown hB hbx
    · rcases Nat.lt_or_ge cap (L.length + 1) with hc | hc
      · refine (ins_grow g L.length cap k bx L X tl w rfl hk2 hc h1 hL hg hbx).mono ?_
        rintro e w' ⟨G, tl', rfl, hgr, hG1, hG2, hG3, hb⟩
        refine ⟨_, rfl, ?_, ⟨hgr.1, hgr.2, hgr.3, hgr.4, fun q hq _ => hgr.5 q hq (by simp)⟩, fun q e => .inr (by simp only [Value.ownBlock, Option.some.injEq] at e; omega)⟩
        have := WRow.of_box hB hb (by rw [hlen hk]; exact hG1) hG2 (by rw [hlen hk]; exact hG3)
        rwa [hlen hk] at this
      · refine (ins_room g L.length cap k bx L X tl w rfl hk2 hc h2 h3 hg hbx (fun e => hne (by rw [e]; rfl))).mono ?_
        rintro e w' ⟨rfl, hgr, hb⟩
        refine ⟨_, rfl, ?_, hgr, fun q e => .inl e⟩
        have := WRow.of_box hBg hb (by rw [hlen hk]; exact hc) h2 (by rw [hlen hk, List.length_drop, h3]; omega)
        rwa [hlen hk] at this
end Go.Proofs.Ytpeehjkpglkikaa

namespace Go.Proofs.Ytpeehjkpglkikaa
open Go.RowKit Go.Sort Go.Lib
attribute [local go_sem] rOper rAt rUpon cell_set sg_i64 sg_u64 alloc_cell alloc_frozen
attribute [local go_sem 10000] pt_eql pt_neq wal_eql wal_neq
attribute [local irreducible] rWalk

theorem step_append_run {P : Program} {ops : Array Oper} {o : Oper} {a : Act} {w : World} {K : Act → World → Prop} {Q : Exit → Act → World → Prop} {E : Prop}
    (hg : o.guard = none) (d x : Operand) (dT sT : TypeId) (hop : o.op = Op.call { callee := Callee.builtin Builtin.append, args := #[d, x], argTypes := #[dT, sT] })
    (v u : Value) (hd : a.eval d = v) (hx : a.eval x = u) {v' : Value} {w' : World} (hr : (Builtin.append_ #[dT, sT] o.type #[v, u]).run P w = .ok v' w') (hK : K (a.put o.dst v') w') :
    if Region.wanted o (yielded ops a.tmps) = true then Oper.wp P o a w K Q else E := by
  have hw : Region.wanted o (yielded ops a.tmps) = true := by simp [Region.wanted, hg]
  rw [if_pos hw]
  unfold Oper.wp
  simp [execOp, hop, resolve, invoke, builtin, hd, hx, hr, Result.andThen]
  exact hK
theorem zero_wl (w : World) : (zeroValue 35).run Try.prog w = .ok (.agg #[.int .i64 0, .int .i64 0, .int .i64 0, .int .i64 0, .int .i64 0]) w := by kernel_rfl
def z5 : List Value := [.int .i64 0, .int .i64 0, .int .i64 0, .int .i64 0, .int .i64 0]
def zN : Nat → List Value
  | 0 => []
  | n + 1 => z5 ++ zN n
theorem zN_len : ∀ n, (zN n).length = n * 5
  | 0 => rfl
  | n + 1 => by rw [zN, List.length_append, zN_len n]; simp [z5]; omega
theorem zN_get : ∀ n i, i < n * 5 → (zN n)[i]? = some (.int .i64 0)
  | 0, i, h => by omega
  | n + 1, i, h => by
    rw [zN]
    by_cases hi : i < 5
    · rw [List.getElem?_append_left (by simpa [z5] using hi)]
      have : i = 0 ∨ i = 1 ∨ i = 2 ∨ i = 3 ∨ i = 4 := by omega
      rcases this with rfl | rfl | rfl | rfl | rfl <;> rfl
    · rw [List.getElem?_append_right (by simp [z5]; omega)]
      exact zN_get n _ (by simp [z5]; omega)
theorem zeros_wl (n : Nat) : (Builtin.zeroCells #[.int .i64 0, .int .i64 0, .int .i64 0, .int .i64 0, .int .i64 0] n).toList = zN n := by
  apply List.ext_getElem?
  intro i
  by_cases h : i < n * 5
  · rw [zN_get n i h, Array.getElem?_toList]
    have : i % 5 = 0 ∨ i % 5 = 1 ∨ i % 5 = 2 ∨ i % 5 = 3 ∨ i % 5 = 4 := by omega
    simp only [Builtin.zeroCells]
    rcases this with e | e | e | e | e <;> simp [h, e]
  · rw [List.getElem?_eq_none (by rw [Array.length_toList, size_zeroCells]; simp; omega), List.getElem?_eq_none (by rw [zN_len]; omega)]
/-- clear(s) of walls in a block of the call's own. -/
theorem clear_run {w : World} (ty : TypeId) (g o n c : Nat) (C : List Value) (hn : 0 < n) (hg : Box w g C 35) (hfit : o + n * 5 ≤ C.length) :
    (Builtin.clear_ #[22] ty #[.slice (some ⟨g, o, none⟩) n c]).run Try.prog w = .ok (.tuple #[]) (w.setRow g (C.take o ++ zN n ++ C.drop (o + n * 5)).toArray) := by
  have hst := run_storeCells_at Try.prog g o 35 (zN n) 0 C.toArray w hg (by rw [zN_len]; simpa using hfit) (by
    intro v hv
    obtain ⟨i, hi, rfl⟩ := List.mem_iff_getElem.1 hv
    have := zN_get n i (by rwa [zN_len] at hi)
    rw [List.getElem?_eq_getElem hi] at this
    simp at this; rw [this]; rfl)
  simp only [Nat.add_zero, zN_len] at hst
  obtain ⟨m, rfl⟩ : ∃ m, n = m + 1 := ⟨n - 1, by omega⟩
  have hz := zeros_wl (m + 1)
  simp [Builtin.clear_, run_underlying Try.underlying22, Value.cells, hz, hst]
/-- append(d, s...) where there is room. -/
theorem room_run {w : World} (ty : TypeId) (g n c : Nat) (a : Addr) (m cs : Nat) (C news : List Value) (hg : Box w g C 35) (hl : news.length = m * 5)
    (hnews : ∀ j u, news[j]? = some u → w.cell? (a.add j) = some u) (h1 : ∀ u ∈ news, u.oneCell' = true) (hroom : n + m ≤ c) (hfit : n * 5 + news.length ≤ C.length) :
    (Builtin.append_ #[22, 22] ty #[.slice (some ⟨g, 0, none⟩) n c, .slice (some a) m cs]).run Try.prog w =
      .ok (.slice (some ⟨g, 0, none⟩) (n + m) c) (w.setRow g (C.take (n * 5) ++ news ++ C.drop (n * 5 + news.length)).toArray) := by
  obtain ⟨i0, hi0, hz0, hzs, hzb⟩ := info_parts info_wall
  have := run_append_room (P := Try.prog) w 22 ty 35 i0 Try.underlying22 hi0 g n c C.toArray hg a m cs news (by rw [hzs]; exact hl) hnews h1 hroom (by rw [hzs]; simpa using hfit)
  rw [hzs] at this
  simpa using this
set_option maxHeartbeats 4000000 in
set_option maxRecDepth 100000 in
theorem del_some (g n c k : Nat) (L : List Wl) (tl : List Value) (w : World) (hn : L.length = n) (hk : k < n) (hc : n ≤ c) (hc2 : c ≤ maxLen) (htl : tl.length = (c - n) * 5)
    (hg : Box w g (L.flatMap cW ++ tl) 35) :
    Calls Try.prog 41 #[.slice (some ⟨g, 0, none⟩) n c, .int .i64 k, .int .i64 ((k : Int) + 1)] w fun e w' =>
      ∃ tl', e = .returned (.slice (some ⟨g, 0, none⟩) (n - 1) c) ∧ w.grownBy w' (some g) ∧ tl'.length = (c - (n - 1)) * 5 ∧ Box w' g ((L.take k ++ L.drop (k + 1)).flatMap cW ++ tl') 35 := by
  have hmx : c ≤ 9223372036854775807 := by unfold maxLen at hc2; omega
  have hkL : k < L.length := by omega
  have hA : ((L.take k).flatMap cW).length = k * 5 := by rw [flatMap_len cW_len, List.length_take]; omega
  have hD : ((L.drop (k + 1)).flatMap cW).length = (n - (k + 1)) * 5 := by rw [flatMap_len cW_len, List.length_drop, hn]
  have hC : L.flatMap cW = (L.take k).flatMap cW ++ (cW L[k] ++ (L.drop (k + 1)).flatMap cW) := by
    rw [← List.flatMap_cons, ← List.flatMap_append, List.getElem_cons_drop hkL, List.take_append_drop]
  have h1D : ∀ v ∈ (L.drop (k + 1)).flatMap cW, v.oneCell' = true := fun u hu => by
    obtain ⟨x, _, hx⟩ := List.mem_flatMap.1 hu
    exact cW_one x u hx
  simp only [List.flatMap_append, List.append_assoc]
  rw [hC] at hg
  simp only [List.append_assoc] at hg
  clear hC
  generalize (L.take k).flatMap cW = A at *
  generalize (L.drop (k + 1)).flatMap cW = D at *
  have hX : (cW L[k]).length = 5 := rfl
  generalize cW L[k] = X at *
  obtain ⟨Y, hY⟩ : ∃ Y, Y = (X ++ D).drop D.length := ⟨_, rfl⟩
  have hYl : Y.length = 5 := by rw [hY, List.length_drop, List.length_append]; omega
  have e1 : (A ++ (X ++ (D ++ tl))).take (k * 5) ++ D ++ (A ++ (X ++ (D ++ tl))).drop (k * 5 + D.length) = A ++ (D ++ (Y ++ tl)) := by
    rw [← hA, List.take_left, List.drop_length_add_append, ← List.append_assoc X D tl, List.drop_append_of_le_length (by rw [List.length_append]; omega), ← hY]; simp only [List.append_assoc]
  have e2 : (A ++ (D ++ (Y ++ tl))).take ((n - 1) * 5) ++ zN 1 ++ (A ++ (D ++ (Y ++ tl))).drop ((n - 1) * 5 + 1 * 5) = A ++ (D ++ (zN 1 ++ tl)) := by
    rw [← List.append_assoc A D, show (n - 1) * 5 = (A ++ D).length by rw [List.length_append]; omega, List.take_left, List.drop_length_add_append, show 1 * 5 = Y.length by omega, List.drop_left]; simp only [List.append_assoc]
  obtain ⟨ad, had, hsrc⟩ : ∃ ad : Addr, (if c = k + 1 then some (⟨g, 0, none⟩ : Addr) else some ⟨g, (k + 1) * 5, none⟩) = some ad ∧ ∀ W, Box W g (A ++ (X ++ (D ++ tl))) 35 → ∀ j u, D[j]? = some u → W.cell? (ad.add j) = some u := by
    by_cases h : c = k + 1
    · refine ⟨⟨g, 0, none⟩, by simp [h], fun W _ j u hu => ?_⟩
      have h0 : D = [] := List.eq_nil_of_length_eq_zero (by rw [hD]; omega)
      rw [h0] at hu; simp at hu
    · refine ⟨⟨g, (k + 1) * 5, none⟩, by simp [h], fun W hW j u hu => ?_⟩
      rw [Addr.add_lit, hW.facts.1, ← List.append_assoc, show (k + 1) * 5 = (A ++ X).length by rw [List.length_append]; omega, List.getElem?_append_right (by omega), Nat.add_sub_cancel_left, List.getElem?_append_left (List.getElem?_eq_some_iff.1 hu).1]
      exact hu
  have hap := fun (W : World) (h : Box W g (A ++ (X ++ (D ++ tl))) 35) (ty : TypeId) (cs : Nat) => room_run ty g k c ad (n - (k + 1)) cs _ D h hD (hsrc W h) h1D (by omega) (by simp only [List.length_append]; omega)
  rw [e1, show k + (n - (k + 1)) = n - 1 by omega] at hap
  have hcl := fun (W : World) (h : Box W g (A ++ (D ++ (Y ++ tl))) 35) (ty : TypeId) (cs : Nat) => clear_run ty g ((n - 1) * 5) 1 cs _ (by omega) h (by simp only [List.length_append]; omega)
  rw [e2] at hcl
  obtain ⟨R1, hR1⟩ : ∃ R : Array Value, R = (A ++ (D ++ (Y ++ tl))).toArray := ⟨_, rfl⟩
  obtain ⟨R2, hR2⟩ : ∃ R : Array Value, R = (A ++ (D ++ (zN 1 ++ tl))).toArray := ⟨_, rfl⟩
  rw [← hR1] at hap
  rw [← hR2] at hcl
  have hset1 : ∀ W : World, Box W g (A ++ (X ++ (D ++ tl))) 35 → Box (W.setRow g R1) g (A ++ (D ++ (Y ++ tl))) 35 := fun W h => by rw [hR1]; exact h.setRow
  have hset2 : ∀ W : World, Box W g (A ++ (D ++ (Y ++ tl))) 35 → Box (W.setRow g R2) g (A ++ (D ++ (zN 1 ++ tl))) 35 := fun W h => by rw [hR2]; exact h.setRow
  have hgrow : ∀ (W : World) (R : Array Value), w.grownBy W (some g) → w.grownBy (W.setRow g R) (some g) := fun W R ⟨a1, a2, a3, a4, a5⟩ =>
    ⟨a1, a2, a3, by simpa [World.setRow] using a4, fun q hq hq2 => by rw [setRow_other _ _ _ _ (fun e => hq2 (by rw [e]))]; exact a5 q hq hq2⟩
  have hgr0 : w.grownBy w.drew (some g) := ⟨rfl, rfl, rfl, Nat.le_refl _, fun _ _ _ => rfl⟩
  have HF := Lib.hid (And.intro hset1 (And.intro hset2 hgrow))
  have H0 := Lib.hid (And.intro hg hgr0)
  obtain ⟨q, hq⟩ : ∃ q, n - 1 = q := ⟨_, rfl⟩
  rw [hq] at hcl hap ⊢
  have hq1 : (q : Int) ≤ (n : Int) := by omega
  have hq2 : n - q = 1 := by omega
  have hq3 : ¬ (c = q) := by omega
  have hq4 : q ≤ n := by omega
  have hq5 : q ≤ c := by omega
  have hq6 : (n : Int) ≤ (c : Int) := by omega
  have hcl2 := hcl _ (hset1 _ hg.drew)
  have hcl3 := hcl _ (hset1 _ hg.drew).drew
  have hap2 := hap _ hg.drew
  have HT := Lib.hid (show (zN 1 ++ tl).length = (c - q) * 5 by rw [List.length_append, zN_len, htl]; omega)
  have hw1 : IntKind.i64.wrap ((k : Int) + 1) = (k : Int) + 1 := by rw [IntKind.wrap_i64]; omega
  have hb1 : (0 : Int) ≤ (k : Int) + 1 := by omega
  have htn : ((k : Int) + 1).toNat = k + 1 := by omega
  have hb3 : (k : Int) + 1 ≤ (n : Int) := by omega
  have hb4 : (k : Int) ≤ (k : Int) + 1 := by omega
  have hb5 : k ≤ n := by omega
  have hb6 : (k : Int) ≤ (n : Int) := by omega
  have hb7 : ¬ ((k : Int) = (k : Int) + 1) := by omega
  have hb8 : (k : Int) ≤ (c : Int) := by omega
  have hb9 : ¬ (n = k) := by omega
  have mixed : Try.prog.follows .mixedOrders = true := by kernel_rfl
  clear hR1 hR2 hset1 hset2 hgrow hgr0 hg e1 e2 hA hD h1D hap hcl hsrc htl hX hYl hY hc2 hkL hn hq
  go_enter Try.func41, Try.ntmps41
  go_wp2
  go_region_law_o (refine step_append_run rfl _ _ 22 22 rfl (.slice (some ⟨g, 0, none⟩) k c) (.slice (some ad) (n - (k + 1)) (c - (k + 1))) (by simp [Act.eval, Act.put]) (by simp [Act.eval, Act.put]) (hap2 _ _) ?_)
  go_wp2
  go_ret
  exact ⟨_, rfl, HF.out.2.2 _ _ (HF.out.2.2 _ _ H0.out.2), HT.out, HF.out.2.1 _ (HF.out.1 _ H0.out.1.drew)⟩
/-- slices.Delete of one wall. -/
theorem del_any (B : Nat) (v : Value) (k : Nat) (L : List Wl) (w : World) (hk : k < L.length) (hown : WRow w B v L) :
    Calls Try.prog 41 #[v, .int .i64 k, .int .i64 ((k : Int) + 1)] w fun e w' =>
      ∃ v', e = .returned v' ∧ WRow w' B v' (L.take k ++ L.drop (k + 1)) ∧ w.grownBy w' v.ownBlock ∧ Fresh v v' w.heap.size := by
  have hlen : (L.take k ++ L.drop (k + 1)).length = L.length - 1 := by simp only [List.length_append, List.length_take, List.length_drop]; omega
  rcases hown.box with ⟨rfl, rfl⟩ | ⟨g, cap, tl, rfl, hBg, hg, h1, h2, h3⟩
  · simp at hk
  · refine (del_some g L.length cap k L tl w rfl hk h1 h2 h3 hg).mono ?_
    rintro e w' ⟨tl', rfl, hgr, ht, hb⟩
    refine ⟨_, rfl, ?_, hgr, fun q e => .inl e⟩
    have := WRow.of_box hBg hb (by rw [hlen]; omega) h2 (by rw [hlen]; exact ht)
    rwa [hlen] at this
end Go.Proofs.Ytpeehjkpglkikaa
