/-
  Plain facts on what is lowered, trimmed and cleaned; 'nothing that was there has changed', step behind step.
-/
import Derived.Test.YtmhoooenolackaaAwake
import Derived.Deep.QuietTactic
import Derived.BigQuiet
namespace Go.Proofs.Ytmhoooenolackaa
open Go.RowKit

theorem below2 {w u1 u2 : World} (h1 : Below w.heap.size w u1) (h2 : Below u1.heap.size u1 u2) : Below w.heap.size w u2 := h1.trans (h2.mono h1.size)
theorem below3 {w u1 u2 u3 : World} (h1 : Below w.heap.size w u1) (h2 : Below u1.heap.size u1 u2) (h3 : Below u2.heap.size u2 u3) : Below w.heap.size w u3 := below2 (below2 h1 h2) h3
theorem below4 {w u1 u2 u3 u4 : World} (h1 : Below w.heap.size w u1) (h2 : Below u1.heap.size u1 u2) (h3 : Below u2.heap.size u2 u3) (h4 : Below u3.heap.size u3 u4) : Below w.heap.size w u4 := below2 (below3 h1 h2 h3) h4
theorem below7 {w u1 u2 u3 u4 u5 u6 u7 : World} (h1 : Below w.heap.size w u1) (h2 : Below u1.heap.size u1 u2) (h3 : Below u2.heap.size u2 u3) (h4 : Below u3.heap.size u3 u4) (h5 : Below u4.heap.size u4 u5) (h6 : Below u5.heap.size u5 u6) (h7 : Below u6.heap.size u6 u7) : Below w.heap.size w u7 :=
  below4 (below4 h1 h2 h3 h4) h5 h6 h7

/-- A region that draws its order, whose operations read no memory and whose callees change nothing that was there. -/
theorem wp_region_quiet_below {P : Program} {id : Nat} {Q : Exit → Act → World → Prop} {a : Act} {w : World} {l : List Oper} (hm : P.follows .mixedOrders = true) (hB : Region.lexB .any l.toArray = true)
    (h : wpQuiet P l.toArray (fun u => Below w.heap.size w u) (fun a' => ∀ u, Below w.heap.size w u → Q .normal a' u) l a) : (Code.region id l.toArray true).wp P Q a w :=
  wp_region_quiet (C := fun u => Below w.heap.size w u) hm hB (Below.refl _ w).drew (by simpa using h)

theorem lowB_lowB (c : UInt8) : lowB (lowB c) = lowB c := by
  apply UInt8.toNat_inj.1
  have h1 := lowB_toNat c
  have h2 := lowB_toNat (lowB c)
  have h : lowI (lowI c.toNat) = lowI c.toNat := by unfold lowI; repeat' split
                                                    all_goals omega
  rw [h1] at h2
  omega
theorem lower_lower (l : List UInt8) : lower (lower l) = lower l := by
  simp [lower, Function.comp_def, lowB_lowB]

theorem outL_head (l : List UInt8) : outL l = [] ∨ ∃ c r, outL l = c :: r ∧ lowish c = false := by
  unfold outL
  cases h : l.dropWhile lowish with
  | nil => exact .inl rfl
  | cons c r =>
    refine .inr ⟨c, r, rfl, ?_⟩
    have := List.head?_dropWhile_not lowish l
    rw [h] at this
    simpa using this
theorem dropEnd_last (l : List UInt8) : dropEnd l = [] ∨ ∃ r c, dropEnd l = r ++ [c] ∧ lowish c = false := by
  unfold dropEnd
  cases h : l.reverse.dropWhile lowish with
  | nil => exact .inl rfl
  | cons c r =>
    refine .inr ⟨r.reverse, c, by simp, ?_⟩
    have := List.head?_dropWhile_not lowish l.reverse
    rw [h] at this
    simpa using this
/-- A text that neither begins nor ends by a byte up to 32. -/
def Tight (l : List UInt8) : Prop := l = [] ∨ (∃ c r, l = c :: r ∧ lowish c = false) ∧ ∃ r c, l = r ++ [c] ∧ lowish c = false
theorem tight_trim (l : List UInt8) : Tight (trim l) := by
  rcases dropEnd_last (outL l) with h | ⟨r, c, h, hc⟩
  · exact .inl h
  · refine .inr ⟨?_, r, c, h, hc⟩
    rcases outL_head l with h0 | ⟨d, q, h0, hd⟩
    · have : trim l = dropEnd [] := by unfold trim; rw [← h0]; rfl
      have e : trim l = r ++ [c] := h
      rw [this] at e
      simp [dropEnd] at e
    · obtain ⟨t, ht⟩ := dropEnd_prefix (outL l)
      have e : trim l = dropEnd (outL l) := rfl
      rw [e]
      rw [h] at ht
      rw [h]
      rw [h0] at ht
      cases r with
      | nil => simp at ht; exact ⟨c, [], rfl, hc⟩
      | cons a r => simp at ht; exact ⟨a, r ++ [c], rfl, by rw [ht.1]; exact hd⟩
theorem trim_tight (l : List UInt8) (h : Tight l) : trim l = l := by
  rcases h with rfl | ⟨⟨c, r, h, hc⟩, r', c', h', hc'⟩
  · rfl
  · have e : outL l = l := by rw [h]; simp [outL, hc]
    unfold trim
    show dropEnd (outL l) = l
    rw [e, h', dropEnd_no _ _ hc']
theorem trim_trim (l : List UInt8) : trim (trim l) = trim l := trim_tight _ (tight_trim l)
theorem lowish_break (c : UInt8) (h : lowish c = false) : breakB c = false := by
  unfold lowish at h
  unfold breakB
  simp at h ⊢
  omega
theorem tight_stays (l : List UInt8) (h : Tight l) : Tight (stays l) := by
  rcases h with rfl | ⟨⟨c, r, h, hc⟩, r', c', h', hc'⟩
  · exact .inl rfl
  · refine .inr ⟨⟨c, stays r, ?_, hc⟩, stays r', c', ?_, hc'⟩
    · rw [h]; simp [stays, lowish_break c hc]
    · rw [h', stays_snoc_yes _ _ (lowish_break c' hc')]
theorem clean_eq (l : List UInt8) : clean l = stays (trim l) := rfl
theorem tight_clean (l : List UInt8) : Tight (clean l) := tight_stays _ (tight_trim l)
theorem stays_stays (l : List UInt8) : stays (stays l) = stays l := by
  unfold stays
  rw [List.filter_filter]
  simp
theorem clean_clean (l : List UInt8) : clean (clean l) = clean l := by
  rw [clean_eq (clean l), trim_tight _ (tight_clean l), clean_eq, stays_stays]

end Go.Proofs.Ytmhoooenolackaa
