/- Decimal texts are read as their numbers, and what is read is its number's text: plain mathematics. -/
import Derived.Test.YtkohcdkolkncaaaWideM
import Derived.Test.YtkohcdkolkncaaaWideN
namespace Go.Proofs.Ytkohcdkolkncaaa
open Go.RowKit

theorem sz_snoc : ∀ (l : List UInt8) (acc : Int) (c : UInt8), sz acc (l ++ [c]) = match sz acc l with
    | none => none
    | some a => sz a [c]
  | [], acc, c => rfl
  | d :: l, acc, c => by
    rw [List.cons_append, sz, sz]
    split
    · rfl
    · exact sz_snoc l _ c
theorem sz_one (a : Int) (c : UInt8) : sz a [c] = if (c.toNat : Int) < 48 ∨ 57 < (c.toNat : Int) ∨ 922337203685477580 < a / 18446744073709551616 then none else some (a * 10 + ((c.toNat : Int) - 48)) := by
  rw [sz]; split <;> rfl
theorem digit_nat (n : Nat) : (UInt8.ofNat (48 + n % 10)).toNat = 48 + n % 10 := by simp; omega
/-- The digits of a number, read, are it. -/
theorem sz_dec : ∀ (f n : Nat), n < 10 ^ f → n ≤ 170141183460469231731687303715884105728 → sz 0 (decF f n) = some (n : Int)
  | 0, n, h, _ => by have : n = 0 := by simpa using h
                     subst this; rfl
  | f + 1, n, h, hb => by
    by_cases hn : n = 0
    · subst hn; rw [decF_zero]; rfl
    · rw [decF_step f n hn, sz_snoc, sz_dec f (n / 10) (by rw [Nat.pow_succ] at h; omega) (by omega)]
      simp only []
      rw [sz_one, digit_nat, if_neg (by omega)]
      congr 1; omega
/-- No nought ahead. -/
theorem dec_head : ∀ (f n : Nat), n < 10 ^ f → n ≠ 0 → ∃ c l, decF f n = c :: l ∧ 49 ≤ c.toNat ∧ c.toNat ≤ 57
  | 0, n, h, hn => by have : n = 0 := by simpa using h
                      exact absurd this hn
  | f + 1, n, h, hn => by
    rw [decF_step f n hn]
    by_cases h10 : n / 10 = 0
    · rw [h10, decF_zero]
      exact ⟨_, [], rfl, by rw [digit_nat]; omega, by rw [digit_nat]; omega⟩
    · obtain ⟨c, l, e, h1, h2⟩ := dec_head f (n / 10) (by rw [Nat.pow_succ] at h; omega) h10
      exact ⟨c, l ++ [UInt8.ofNat (48 + n % 10)], by rw [e]; rfl, h1, h2⟩
theorem sizeV_dec (n : Nat) (hn : n ≠ 0) (hb : n ≤ 170141183460469231731687303715884105728) : sizeV (decs n) = some (n : Int) := by
  have hp : n < 10 ^ 40 := by
    have e : (10 : Nat) ^ 40 = 10000000000000000000000000000000000000000 := rfl
    omega
  obtain ⟨c, l, e, h1, _⟩ := dec_head 40 n hp hn
  unfold sizeV decs
  rw [if_neg, sz_dec 40 n hp hb]
  rintro (h | ⟨h, _⟩)
  · rw [e] at h; cases h
  · rw [e] at h
    simp only [List.head?_cons, Option.some.injEq] at h
    rw [h] at h1; exact absurd h1 (by decide)
theorem cut_dec (n : Nat) (hn : n ≠ 0) (hb : n ≤ 170141183460469231731687303715884105728) : cutV (decs n) = decs n ∧ negV (decs n) = false := by
  have hp : n < 10 ^ 40 := by
    have e : (10 : Nat) ^ 40 = 10000000000000000000000000000000000000000 := rfl
    omega
  obtain ⟨c, l, e, h1, _⟩ := dec_head 40 n hp hn
  have hne : ¬ (decs n).head? = some 45 := by
    unfold decs; rw [e]
    simp only [List.head?_cons, Option.some.injEq]
    intro h; rw [h] at h1; exact absurd h1 (by decide)
  unfold cutV negV
  exact ⟨if_neg hne, decide_eq_false hne⟩
/-- A number's text is read as that number. -/
theorem parse_text {n : Int} (h : fits n = true) : parseV (textV n) = some n := by
  rw [fits_iff] at h
  unfold textV
  by_cases h0 : n = 0
  · rw [if_pos h0, h0]; rfl
  · rw [if_neg h0]
    by_cases hneg : n < 0
    · rw [if_pos hneg]
      have e1 : cutV (45 :: decs (-n).toNat) = decs (-n).toNat := by unfold cutV; simp
      have e2 : negV (45 :: decs (-n).toNat) = true := by unfold negV; simp
      unfold parseV
      rw [e1, sizeV_dec _ (by omega) (by omega)]
      simp only []
      rw [e2, if_pos rfl, if_pos (by omega)]
      congr 1; omega
    · rw [if_neg hneg]
      obtain ⟨e1, e2⟩ := cut_dec n.toNat (by omega) (by omega)
      unfold parseV
      rw [e1, sizeV_dec _ (by omega) (by omega)]
      simp only []
      rw [e2, if_neg (by simp), if_pos (by omega)]
      congr 1; omega
/-- What is read, without a nought ahead, is its number's digits. -/
theorem dec_of_sz : ∀ (k : Nat) (l : List UInt8) (n : Int) (f : Nat), l.length = k → k ≤ f → l ≠ [] → ¬ l.head? = some 48 → sz 0 l = some n → 0 < n ∧ l = decF f n.toNat
  | 0, l, n, f, hk, _, hne, _, _ => absurd (List.length_eq_zero_iff.1 hk) hne
  | k + 1, l, n, f, hk, hf, hne, hh, h => by
    obtain ⟨d, c, rfl⟩ : ∃ d c, l = d ++ [c] := ⟨l.dropLast, l.getLast hne, (List.dropLast_concat_getLast hne).symm⟩
    obtain ⟨f', rfl⟩ : ∃ f', f = f' + 1 := ⟨f - 1, by omega⟩
    rw [sz_snoc] at h
    cases ha : sz 0 d with
    | none => rw [ha] at h; cases h
    | some a =>
      rw [ha] at h
      simp only [] at h
      rw [sz_one] at h
      split at h
      · cases h
      · rename_i hc
        have hn := Option.some.inj h
        by_cases hd : d = []
        · subst hd
          have ha0 : a = 0 := by cases ha; rfl
          subst ha0
          have hc48 : c.toNat ≠ 48 := fun e => hh (by simp; exact UInt8.toNat_inj.1 e)
          refine ⟨by omega, ?_⟩
          rw [decF_step f' _ (by omega), show n.toNat / 10 = 0 by omega, decF_zero]
          rw [List.nil_append, List.nil_append]
          congr 1
          apply UInt8.toNat_inj.1
          rw [digit_nat]; omega
        · have hh2 : ¬ d.head? = some 48 := by
            cases d with
            | nil => exact absurd rfl hd
            | cons x d => simpa using hh
          obtain ⟨ap, hdd⟩ := dec_of_sz k d a f' (by simp at hk; omega) (by omega) hd hh2 ha
          refine ⟨by omega, ?_⟩
          rw [decF_step f' _ (by omega), show n.toNat / 10 = a.toNat by omega, ← hdd]
          congr 2
          apply UInt8.toNat_inj.1
          rw [digit_nat]; omega
theorem decF_more (a n : Nat) (h : n < 10 ^ a) : ∀ d, decF (a + d) n = decF a n
  | 0 => rfl
  | d + 1 => by
    rw [← Nat.add_assoc, decF_fuel (a + d) n (Nat.lt_of_lt_of_le h (Nat.pow_le_pow_right (by omega) (by omega)))]
    exact decF_more a n h d
theorem size_back {l : List UInt8} {n : Int} (h : sizeV l = some n) : (n = 0 ∧ l = [48]) ∨ (0 < n ∧ l = decs n.toNat) := by
  obtain ⟨n0, n1⟩ := sizeV_range h
  unfold sizeV at h
  split at h
  · cases h
  · rename_i hc
    have hne : l ≠ [] := fun e => hc (.inl e)
    by_cases h48 : l.head? = some 48
    · left
      have hlen : l.length = 1 := by
        have h1 : ¬ 1 < l.length := fun e => hc (.inr ⟨h48, e⟩)
        have h2 : 0 < l.length := List.length_pos_iff.2 hne
        omega
      match l, hlen with
      | [c], _ =>
        simp only [List.head?_cons, Option.some.injEq] at h48
        subst h48
        exact ⟨(Option.some.inj h).symm, rfl⟩
    · right
      obtain ⟨hp, he⟩ := dec_of_sz l.length l n (40 + l.length) rfl (by omega) hne h48 h
      refine ⟨hp, ?_⟩
      have hb : n.toNat < 10 ^ 40 := by
        have e : (10 : Nat) ^ 40 = 10000000000000000000000000000000000000000 := rfl
        omega
      rw [decF_more 40 _ hb] at he
      exact he
/-- What is read is its number's text. -/
theorem text_parse {l : List UInt8} {m : Int} (h : parseV l = some m) : textV m = l ∧ fits m = true := by
  unfold parseV at h
  cases hz : sizeV (cutV l) with
  | none => rw [hz] at h; cases h
  | some n =>
    rw [hz] at h
    simp only [] at h
    have hb := size_back hz
    by_cases hn : negV l = true
    · rw [hn, if_pos rfl] at h
      split at h
      · rename_i hr
        have hm := Option.some.inj h
        subst hm
        have h45 : l.head? = some 45 := by unfold negV at hn; exact of_decide_eq_true hn
        have hl : l = 45 :: cutV l := by
          unfold cutV; rw [if_pos h45]
          cases l with
          | nil => cases h45
          | cons c t => simp only [List.head?_cons, Option.some.injEq] at h45; subst h45; rfl
        rcases hb with ⟨h0, _⟩ | ⟨hp, hd⟩
        · omega
        · refine ⟨?_, by rw [fits_iff]; omega⟩
          unfold textV
          rw [if_neg (by omega), if_pos (by omega), Int.neg_neg, ← hd]
          exact hl.symm
      · cases h
    · rw [if_neg hn] at h
      split at h
      · rename_i hr
        have hm := Option.some.inj h
        subst hm
        have h45 : ¬ l.head? = some 45 := by unfold negV at hn; simpa using hn
        have hl : cutV l = l := by unfold cutV; rw [if_neg h45]
        rw [hl] at hb
        rcases hb with ⟨h0, hd⟩ | ⟨hp, hd⟩
        · subst h0
          exact ⟨hd.symm, by rw [fits_iff]; omega⟩
        · refine ⟨?_, by rw [fits_iff]; omega⟩
          unfold textV
          rw [if_neg (by omega), if_neg (by omega)]
          exact hd.symm
      · cases h
theorem textV_len (n : Int) : (textV n).length ≤ 41 := by
  have hd : ∀ (f n : Nat), (decF f n).length ≤ f := by
    intro f
    induction f with
    | zero => intro n; simp [decF]
    | succ f ih =>
      intro n
      rw [decF]; split
      · simp
      · simp; have := ih (n / 10); omega
  unfold textV
  split
  · simp
  · split
    · simp; exact hd 40 _
    · have := hd 40 n.toNat; unfold decs; omega
end Go.Proofs.Ytkohcdkolkncaaa
