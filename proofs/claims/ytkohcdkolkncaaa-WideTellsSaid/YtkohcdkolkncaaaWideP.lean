/- The contracts of package wide's and of the document's own sums, differences, opposites, signs and order, over the program. -/
import Derived.Test.YtkohcdkolkncaaaRows
import Derived.Test.YtkohcdkolkncaaaWideT
import Derived.Test.YtkohcdkolkncaaaWideN
import Derived.Test.YtkohcdkolkncaaaRegion
import Derived.WalkKit
import Derived.WalkSpells
import Derived.WalkLawsBesides
import Derived.Laws.Externs
import Derived.Deep.QuietTactic
import Derived.BigQuiet
import Derived.Lib.Hide
import Derived.Handy
import Derived.Laws.MathBits
namespace Go.Proofs.Ytkohcdkolkncaaa
open Go.RowKit
attribute [local go_sem] rOper rAt rUpon cell_set sg_i64 sg_u64 alloc_cell alloc_frozen

theorem ret_uub {a b c d : Int} {x y : Bool} (h : a = c) (h2 : b = d) (h3 : x = y) : Ending.returned (.tuple #[.int .u64 a, .int .u64 b, .bool x]) = .returned (.tuple #[.int .u64 c, .int .u64 d, .bool y]) := by rw [h, h2, h3]
theorem at_list (s : ByteArray) (k : Nat) (h : k < s.size) : s.data.toList[k]'(by simpa using h) = s[k] := by
  simp; rfl
theorem bsz_stop (s : ByteArray) {acc : Int} {k : Nat} (h : k < s.size) (c : (s[k].toNat : Int) < 48 ∨ 57 < (s[k].toNat : Int) ∨ 922337203685477580 < acc / 18446744073709551616) : sz acc (s.data.toList.drop k) = none :=
  sz_stop (by simpa using h) (by rw [at_list s k h]; exact c)
theorem bsz_go (s : ByteArray) {acc : Int} {k : Nat} (h : k < s.size) (c : ¬ ((s[k].toNat : Int) < 48 ∨ 57 < (s[k].toNat : Int) ∨ 922337203685477580 < acc / 18446744073709551616)) :
    sz acc (s.data.toList.drop k) = sz (acc * 10 + ((s[k].toNat : Int) - 48)) (s.data.toList.drop (k + 1)) := by
  have := sz_go (l := s.data.toList) (acc := acc) (k := k) (by simpa using h) (by rw [at_list s k h]; exact c)
  rw [this, at_list s k h]
theorem size_empty (s : ByteArray) (he : s.data.toList = []) (w : World) :
    Calls Try.prog 40 #[.string s] w fun e w' => e = .returned (.tuple #[.int .u64 0, .int .u64 0, .bool false]) ∧ w = w' := by
  have e1 : s.toList.isEmpty = true := by rw [ByteArray.toList_eq, he]; rfl
  have e2 : s.toList = [] := by rw [ByteArray.toList_eq, he]
  clear he
  go_enter Try.func40, Try.ntmps40
  go_wp2
  go_ret3
  exact ⟨rfl, rfl⟩
theorem size_nought (s : ByteArray) (h1 : 1 < s.size) (hz : (s[0]'(by omega)).toNat = 48) (w : World) :
    Calls Try.prog 40 #[.string s] w fun e w' => e = .returned (.tuple #[.int .u64 0, .int .u64 0, .bool false]) ∧ w = w' := by
  have hs : 0 < s.size := by omega
  have he : ¬ s.toList = [] := by
    rw [ByteArray.toList_eq]; intro h
    have h2 : s.data.toList.length = s.size := by simp
    rw [h] at h2; simp at h2; omega
  have e1 : s.toList.isEmpty = false := by simpa using he
  have e3 : (((s[0]'hs).toNat : Int) == 48) = true := by simp; exact_mod_cast hz
  go_enter Try.func40, Try.ntmps40
  have e4 : decide (1 < (s.size : Int)) = true := by simp; omega
  go_wp2
  go_ret3
  exact ⟨rfl, rfl⟩
theorem size_any (s : ByteArray) (hs : s.size ≤ maxLen) (w : World) :
    Calls Try.prog 40 #[.string s] w fun e w' =>
      e = .returned (.tuple #[.int .u64 (oH (sizeV s.data.toList)), .int .u64 (oL (sizeV s.data.toList)), .bool (sizeV s.data.toList).isSome]) ∧ w = w' := by
  unfold maxLen at hs
  have hlen : s.data.toList.length = s.size := by simp
  by_cases he : s.data.toList = []
  · have e1 : sizeV s.data.toList = none := by unfold sizeV; rw [if_pos (.inl he)]
    rw [e1]
    exact size_empty s he w
  · have hp : 0 < s.size := by rw [← hlen]; exact List.length_pos_iff.2 he
    by_cases hz : s.data.toList.head? = some 48 ∧ 1 < s.data.toList.length
    · have e1 : sizeV s.data.toList = none := by unfold sizeV; rw [if_pos (.inr hz)]
      rw [e1]
      refine size_nought s (by omega) ?_ w
      have h0 := hz.1
      rw [List.head?_eq_getElem?, List.getElem?_eq_getElem (by omega), at_list s 0 hp] at h0
      have := Option.some.inj h0
      rw [this]; rfl
    · have e1 : sizeV s.data.toList = sz 0 s.data.toList := by unfold sizeV; rw [if_neg (by rintro (h | h); exact he h; exact hz h)]
      rw [e1]
      have he2 : ¬ s.toList = [] := by rw [ByteArray.toList_eq]; exact he
      have e1' : s.toList.isEmpty = false := by simpa using he2
      have HZ : (s[0]'hp).toNat = 48 → s.size ≤ 1 := fun h => by
        rcases Nat.lt_or_ge 1 s.size with h2 | h2
        · exfalso
          refine hz ⟨?_, by omega⟩
          rw [List.head?_eq_getElem?, List.getElem?_eq_getElem (by omega), at_list s 0 hp]
          congr 1
          exact UInt8.toNat_inj.1 h
        · exact h2
      have hcase : ((((s[0]'hp).toNat : Int) == 48) = true ∧ decide (1 < (s.size : Int)) = false) ∨ (((s[0]'hp).toNat : Int) == 48) = false := by
        by_cases h : (s[0]'hp).toNat = 48
        · left; exact ⟨by simp; exact_mod_cast h, by have := HZ h; simp; omega⟩
        · right; simp; omega
      clear hz he e1 he2 HZ
      have HL := Lib.hid hlen
      clear hlen
      rcases hcase with ⟨c1, c2⟩ | c1
      all_goals
        go_enter Try.func40, Try.ntmps40
        go_wp2_with fail
        go_loop [2, 3, 21] (fun a b i => ∃ (k : Nat) (acc : Int), k ≤ s.size ∧ i = .int .i64 k ∧ a = .int .u64 (acc / 18446744073709551616) ∧ b = .int .u64 (acc % 18446744073709551616) ∧ 0 ≤ acc ∧ acc ≤ 340282366920938463463374607431768211455 ∧ sz 0 s.data.toList = sz acc (s.data.toList.drop k)) (fun _ _ i => s.size - (intOf i).toNat)
        case atStart => exact ⟨0, 0, by omega, rfl, rfl, rfl, by omega, by omega, rfl⟩
        case round =>
          obtain ⟨k, acc, hk, rfl, rfl, rfl, a0, a1, hrel⟩ := hrel
          have HR := Lib.hid hrel
          clear hrel
          by_cases hlt : k < s.size
          · have HB : Hid (((s[k].toNat : Int) < 48 ∨ 57 < (s[k].toNat : Int) ∨ 922337203685477580 < acc / 18446744073709551616) → sz 0 s.data.toList = none) := fun h => by rw [HR.out]; exact bsz_stop s hlt h
            have HG : Hid (¬ ((s[k].toNat : Int) < 48 ∨ 57 < (s[k].toNat : Int) ∨ 922337203685477580 < acc / 18446744073709551616) → sz 0 s.data.toList = sz (acc * 10 + ((s[k].toNat : Int) - 48)) (s.data.toList.drop (k + 1))) := fun h => by rw [HR.out]; exact bsz_go s hlt h
            have cb : (s[k].toNat : Int) ≤ 255 := by have := s[k].toNat_lt; omega
            by_cases c1 : (s[k].toNat : Int) < 48
            · go_wp2
              go_ret3
              exact ⟨by rw [HB.out (.inl c1)]; rfl, rfl⟩
            by_cases c2 : 57 < (s[k].toNat : Int)
            · go_wp2
              go_ret3
              exact ⟨by rw [HB.out (.inr (.inl c2))]; rfl, rfl⟩
            by_cases c3 : 922337203685477580 < acc / 18446744073709551616
            · go_wp2
              go_ret3
              exact ⟨by rw [HB.out (.inr (.inr c3))]; rfl, rfl⟩
            have d0 : 48 ≤ (s[k].toNat : Int) := by omega
            have d1 : (s[k].toNat : Int) ≤ 57 := by omega
            have cl := lengthen_any (acc / 18446744073709551616) (acc % 18446744073709551616) ((s[k].toNat : Int) - 48) (by omega) (by omega) (by omega) (by omega) (by omega) (by omega)
            rw [show V (acc / 18446744073709551616) (acc % 18446744073709551616) = acc by unfold V; omega] at cl
            obtain ⟨acc2, hacc⟩ : ∃ q, acc * 10 + ((s[k].toNat : Int) - 48) = q := ⟨_, rfl⟩
            rw [hacc] at cl HG
            have b0 : 0 ≤ acc2 := by omega
            have b1 : acc2 ≤ 340282366920938463463374607431768211455 := by omega
            have HG2 := Lib.hid (HG.out (by omega))
            clear hacc HG HB
            go_wp2_with (first | (go_at_call 45; refine (cl _).mono ?_; rintro e w' ⟨rfl, rfl⟩))
            go_round
            case rel => exact ⟨k + 1, acc2, by omega, by go_num, rfl, rfl, b0, b1, HG2.out⟩
            case measure => simp [intOf]; omega
          · have HR2 := Lib.hid (HR.out.trans (sz_end (by rw [HL.out]; omega)))
            clear HR
            go_wp2
            go_ret3
            exact ⟨by rw [HR2.out]; rfl, rfl⟩
end Go.Proofs.Ytkohcdkolkncaaa
