/-
  What the laws on a list's parts ask of a part's bytes.
-/
import Derived.Test.YtbgebolamkfnlaaDoorTkTold
namespace Go.Proofs.YtbgebolamkfnlaaDoor.Token
set_option linter.unusedSimpArgs false
set_option linter.unusedVariables false
set_option maxRecDepth 100000


open Go.RowKit Go.Shelf

open Url

open Path (Strs MaxAt)

open Head (tb tb_list tb_size Fr Bk blankB)


theorem strs_at {W : World} {a : Option Addr} {n c : Nat} {l : List T} (h : Strs W (.slice a n c) l) (k : Nat) (hk : k < l.length) : ∃ b off, a = some ⟨b, off, none⟩ ∧ k < c ∧ W.cell? ⟨b, off + k, none⟩ = some (.string (tb l[k])) := by
  obtain ⟨a', c', e, h1, h2, h3, h4⟩ := h
  cases e
  obtain ⟨b, off, rfl, hc⟩ := h4 (by intro e; rw [e] at hk; simp at hk)
  exact ⟨b, off, rfl, by omega, hc k hk⟩

theorem byte_ne (c n : UInt8) (h : c ≠ n) : ((c.toNat : Int) == (n.toNat : Int)) = false := by
  rw [beq_eq_false_iff_ne]
  intro e
  exact h (UInt8.toNat_inj.1 (by omega))

theorem byte_no (c n : UInt8) (h : c ≠ n) : ((c.toNat : Int) != (n.toNat : Int)) = true := by
  rw [bne_iff_ne]
  intro e
  exact h (UInt8.toNat_inj.1 (by omega))

theorem blank_32 {c : UInt8} (h : blankB c = false) : c ≠ 32 := by rintro rfl; revert h; decide

theorem blank_9 {c : UInt8} (h : blankB c = false) : c ≠ 9 := by rintro rfl; revert h; decide

theorem part_ok (t : ByteArray) (h44 : (44 : UInt8) ∉ t.data.toList) (hf : Fr t.data.toList) (hb : Bk t.data.toList) (h0 : 0 < t.size) :
    (∀ j (h : j < t.size), ((t[j].toNat : Int) == 44) = false) ∧ ((t[0].toNat : Int) != 32) = true ∧ ((t[0].toNat : Int) != 9) = true ∧ ((t[t.size - 1].toNat : Int) != 32) = true ∧ ((t[t.size - 1].toNat : Int) != 9) = true := by
  have hl : t.data.toList.length = t.size := rfl
  have hg : ∀ j (h : j < t.size), t.data.toList[j]? = some t[j] := fun j h => by rw [List.getElem?_eq_getElem (by rw [hl]; exact h)]; rfl
  refine ⟨fun j h => byte_ne t[j] 44 (fun e => h44 ?_), ?_⟩
  · rw [← e]; exact List.mem_of_getElem? (hg j h)
  · have h1 : blankB t[0] = false := by
      rcases hf with e | ⟨c, r, e, hc⟩
      · rw [e] at hl; simp at hl; omega
      · have := hg 0 h0
        rw [e] at this
        simp at this
        rw [← this]; exact hc
    have h2 : blankB t[t.size - 1] = false := by
      rcases hb with e | ⟨r, c, e, hc⟩
      · rw [e] at hl; simp at hl; omega
      · have := hg (t.size - 1) (by omega)
        have hr : t.size - 1 = r.length := by rw [← hl, e]; simp
        rw [e] at this
        have h3 : (r ++ [c])[t.size - 1]? = some c := by rw [hr]; simp
        have e2 := Option.some.inj (h3.symm.trans this)
        rw [← e2]; exact hc
    exact ⟨byte_no _ 32 (blank_32 h1), byte_no _ 9 (blank_9 h1), byte_no _ 32 (blank_32 h2), byte_no _ 9 (blank_9 h2)⟩

end Go.Proofs.YtbgebolamkfnlaaDoor.Token
