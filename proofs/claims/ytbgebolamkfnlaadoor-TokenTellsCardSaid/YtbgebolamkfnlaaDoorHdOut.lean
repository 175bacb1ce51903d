/-
  Fields written out, plain: how long, and step by step.
-/
import Derived.Test.YtbgebolamkfnlaaDoorHdRows
namespace Go.Proofs.YtbgebolamkfnlaaDoor.Head
set_option linter.unusedSimpArgs false
set_option linter.unusedVariables false
set_option maxRecDepth 100000


open Go.RowKit Go.Shelf

open Url


theorem field_less {s : T} {f : F} (h : fieldO s = some f) : f.1.length + f.2.length + 1 ≤ s.length := by
  unfold fieldO at h
  split at h
  · rename_i hc
    simp only [Bool.and_eq_true] at hc
    cases h
    have hw := congrArg List.length (whole 58 s ((has_iff 58 s).1 hc.1.1))
    rw [List.length_append, List.length_cons] at hw
    have ht := trim_len (aft 58 s)
    show (bef 58 s).length + (trimB (aft 58 s)).length + 1 ≤ s.length
    omega
  · cases h

theorem out_len (l : T) : ∀ x, parseL l = some x → (outL x).length ≤ 2 * l.length ∧ x.length ≤ l.length := by
  induction hn : l.length using Nat.strongRecOn generalizing l with
  | _ n ih =>
    subst hn
    intro x hx
    by_cases hl : l = []
    · subst hl; rw [parse_nil] at hx; cases hx; simp [outL]
    · rcases parted2 l with h | ⟨a, r, rfl, hF⟩
      · rw [parse_none hl h] at hx; cases hx
      · rw [parse_end hF] at hx
        cases h1 : fieldO a with
        | none => rw [h1] at hx; cases hx
        | some g =>
          cases h2 : parseL r with
          | none => rw [h1, h2] at hx; cases hx
          | some y =>
            rw [h1, h2] at hx
            cases hx
            have hlen : r.length < (a ++ 13 :: 10 :: r).length := by simp; omega
            have h3 := ih r.length hlen r rfl y h2
            have h4 := field_less h1
            have h5 : (outL (g :: y)).length = g.1.length + (g.2.length + 2) + 2 + (outL y).length := by
              show (out1 g ++ outL y).length = _
              unfold out1
              simp only [List.length_append, List.length_cons, List.length_nil]
              omega
            rw [h5, List.length_append, List.length_cons, List.length_cons, List.length_cons]
            omega

theorem out_take (x : List F) (k : Nat) (h : k < x.length) : tb (outL (x.take k)) ++ tb x[k].1 ++ ⟨#[58, 32]⟩ ++ tb x[k].2 ++ ⟨#[13, 10]⟩ = tb (outL (x.take (k + 1))) := by
  rw [List.take_succ_eq_append_getElem h, outL_snoc]
  unfold out1
  rw [show outL (x.take k) ++ (x[k].1 ++ 58 :: 32 :: (x[k].2 ++ [13, 10])) = (((outL (x.take k) ++ x[k].1) ++ [58, 32]) ++ x[k].2) ++ [13, 10] by simp]
  rw [tb_app, tb_app, tb_app, tb_app]
  rfl

theorem out_take_len (x : List F) (k : Nat) : (outL (x.take k)).length ≤ (outL x).length := by
  conv => rhs; rw [← List.take_append_drop k x]
  unfold outL
  rw [List.flatMap_append, List.length_append]
  omega

theorem parsed {l : T} (h : parseB l = true) : parseL l = some (parseF l) := by
  unfold parseB at h
  obtain ⟨y, hy⟩ := Option.isSome_iff_exists.1 h
  unfold parseF
  rw [hy]; rfl

theorem not_parsed {l : T} (h : parseB l = false) : parseF l = [] := by
  unfold parseB at h
  unfold parseF
  rw [show parseL l = none from Option.not_isSome_iff_eq_none.1 (by rw [h]; simp)]; rfl

theorem parsed_ok {l : T} (h : parseB l = true) : ∀ f ∈ parseF l, nameB f.1 = true ∧ valB f.2 = true ∧ f.1.length ≤ l.length ∧ f.2.length ≤ l.length := parse_ok l _ (parsed h)

theorem parsed_len (l : T) : (parseF l).length ≤ l.length := by
  cases h : parseB l
  · rw [not_parsed h]; exact Nat.zero_le _
  · exact (out_len l _ (parsed h)).2

theorem parsed_out {l : T} (h : parseB l = true) : parseB (outL (parseF l)) = true ∧ parseF (outL (parseF l)) = parseF l := by
  have h1 := parse_out (parseF l) (fun f hf => ⟨(parsed_ok h f hf).1, (parsed_ok h f hf).2.1⟩)
  unfold parseB
  unfold parseF at h1 ⊢
  rw [h1]
  exact ⟨rfl, rfl⟩

theorem parsed_app {a b : T} (h : parseB a = true) : parseB (a ++ b) = parseB b ∧ (parseB b = true → parseF (a ++ b) = parseF a ++ parseF b) := by
  have h1 := parse_app a b _ (parsed h)
  constructor
  · show (parseL (a ++ b)).isSome = (parseL b).isSome
    rw [h1]; cases parseL b <;> rfl
  · intro hb
    show (parseL (a ++ b)).getD [] = _
    rw [h1, parsed hb]; rfl

/-- A field's own texts, by the field's place. -/
theorem Flds.at_ {W : World} {a : Option Addr} {n c : Nat} {l : List F} (h : Flds W (.slice a n c) l) (k : Nat) (hk : k < l.length) : ∃ b off, a = some ⟨b, off, none⟩ ∧ k < c ∧ W.cell? ⟨b, off + k * 2, none⟩ = some (.string (tb l[k].1)) ∧ W.cell? ⟨b, off + k * 2 + 1, none⟩ = some (.string (tb l[k].2)) := by
  obtain ⟨a', c', e, h1, h2, h3, h4⟩ := h
  cases e
  obtain ⟨b, off, rfl, hc⟩ := h4 (by intro e; rw [e] at hk; simp at hk)
  exact ⟨b, off, rfl, by omega, hc k hk⟩

/-- One field alone, in an array of its own. -/
theorem flds_one (w : World) (n x : ByteArray) : Flds (w.alloc (.cells #[.string n, .string x] 36)) (.slice (some ⟨w.heap.size, 0, none⟩) 1 1) [(n.data.toList, x.data.toList)] := by
  refine ⟨_, 1, rfl, by simp, by unfold maxLen; omega, (fun e => by cases e), fun _ => ⟨w.heap.size, 0, rfl, fun j hj => ?_⟩⟩
  have h : (w.alloc (.cells #[.string n, .string x] 36)).heap[w.heap.size]? = some (.cells #[.string n, .string x] 36 (0, 0)) := heap_alloc_new w _
  have e1 : tb n.data.toList = n := tb_of n
  have e2 : tb x.data.toList = x := tb_of x
  match j, hj with
  | 0, _ =>
    constructor
    · rw [cell_of_row _ _ _ _ _ _ h]; simp [e1]
    · rw [cell_of_row _ _ _ _ _ _ h]; simp [e2]

theorem not_more (l : List F) (f : F) : decide (l = l ++ [f]) = false := decide_eq_false (fun h => by have := congrArg List.length h; simp at this)

end Go.Proofs.YtbgebolamkfnlaaDoor.Head
