/-
  What the laws of layer 13 lean on, plain.
-/
import Derived.Test.YtbgebolamkfnlaaDoorHdOpen
namespace Go.Proofs.YtbgebolamkfnlaaDoor.Head
set_option linter.unusedSimpArgs false
set_option linter.unusedVariables false
set_option maxRecDepth 100000


open Go.RowKit Go.Shelf

open Url


theorem name_at (s : ByteArray) (k : Nat) (h : k < s.size) (hn : nameB s.data.toList = true) :
    decide ((s[k].toNat : Int) ≤ 32) = false ∧ decide (127 ≤ (s[k].toNat : Int)) = false ∧ ((s[k].toNat : Int) == 58) = false ∧ ((s[k].toNat : Int) == 44) = false := by
  obtain ⟨h1, h2, h3, h4⟩ := inN_bound s[k] (name_mem hn s[k] (get_mem s k h))
  refine ⟨decide_eq_false (by omega), decide_eq_false (by omega), ?_, ?_⟩
  · rw [beq_eq_false_iff_ne]
    intro e
    exact h3 (UInt8.toNat_inj.1 (by show s[k].toNat = 58; omega))
  · rw [beq_eq_false_iff_ne]
    intro e
    exact h4 (UInt8.toNat_inj.1 (by show s[k].toNat = 44; omega))

theorem val_at (v : ByteArray) (k : Nat) (h : k < v.size) (hv : valB v.data.toList = true) :
    ((v[k].toNat : Int) != 10) = true ∧ ((v[k].toNat : Int) != 13) = true ∧ ((v[k].toNat : Int) != 0) = true ∧ (((v[k].toNat : Int) != 32) = false → 0 < k ∧ k < v.size - 1) := by
  have hb := val_bads hv v[k] (get_mem v k h)
  have hfb := (trim_iff _).1 (val_same hv)
  have hne : ∀ n : UInt8, bads.contains n = true → v[k] ≠ n := fun n hn e => by rw [e, hn] at hb; cases hb
  have key : ∀ n : UInt8, v[k] ≠ n → ((v[k].toNat : Int) != (n.toNat : Int)) = true := fun n hn => by
    rw [bne_iff_ne]
    intro e
    exact hn (UInt8.toNat_inj.1 (by omega))
  refine ⟨key 10 (hne 10 rfl), key 13 (hne 13 rfl), key 0 (hne 0 rfl), fun h32 => ?_⟩
  have e32 : v[k] = 32 := by
    rw [bne_eq_false_iff_eq] at h32
    exact UInt8.toNat_inj.1 (by show v[k].toNat = 32; omega)
  have hvl : v.data.toList.length = v.size := rfl
  constructor
  · rcases Nat.eq_zero_or_pos k with h0 | h0
    · exfalso
      rcases hfb.1 with he | ⟨c, r, he, hc⟩
      · rw [he] at hvl; simp at hvl; omega
      · have : v[k] = c := by
          have h1 : v.data.toList[k]'(by omega) = c := by simp [he, h0]
          exact h1
        rw [← this, e32] at hc
        revert hc; decide
    · exact h0
  · rcases Nat.lt_or_ge k (v.size - 1) with h0 | h0
    · exact h0
    · exfalso
      have hk : k = v.size - 1 := by omega
      rcases hfb.2 with he | ⟨r, c, he, hc⟩
      · rw [he] at hvl; simp at hvl; omega
      · have hrl : r.length + 1 = v.size := by rw [← hvl, he]; simp
        have : v[k] = c := by
          have h1 : v.data.toList[k]'(by omega) = c := by
            have h2 : (v.data.toList)[k]? = some c := by rw [he, show k = r.length by omega]; simp
            rw [List.getElem?_eq_getElem (by omega)] at h2
            exact Option.some.inj h2
          exact h1
        rw [← this, e32] at hc
        revert hc; decide

theorem few_of {l : List F} (h : fewF l = true) : l.length ≤ 60 ∧ ∀ f ∈ l, f.1.length ≤ 300 ∧ f.2.length ≤ 300 := (fewF_iff l).1 h

theorem few_big {l : List F} (h : ∀ f ∈ l, f.1.length ≤ 300 ∧ f.2.length ≤ 300) : ∀ f ∈ l, f.1.length ≤ 1000000 ∧ f.2.length ≤ 1000000 := fun f hf => ⟨Nat.le_trans (h f hf).1 (by omega), Nat.le_trans (h f hf).2 (by omega)⟩

end Go.Proofs.YtbgebolamkfnlaaDoor.Head
