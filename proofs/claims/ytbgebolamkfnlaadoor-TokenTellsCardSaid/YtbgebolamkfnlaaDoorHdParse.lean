/-
  Parse(raw): a range over the lines that leaves early, where one tells no field.
-/
import Derived.Test.YtbgebolamkfnlaaDoorHdLines
namespace Go.Proofs.YtbgebolamkfnlaaDoor.Head
set_option linter.unusedSimpArgs false
set_option linter.unusedVariables false
set_option maxRecDepth 100000


open Go.RowKit Go.Shelf

open Url

open Path (Strs tx infoText MaxAt)

attribute [local go_sem] Oper.semAt_some

theorem keeps_below {W W' : World} (h : Below W.heap.size W W') (D : Nat) : KeepsFrom D W W' := ⟨h.size, fun k o _ hk _ => (h.block k (Array.getElem?_eq_some_iff.1 hk).1).trans hk⟩

theorem flds_kept {W W' : World} {v : Value} {l : List F} (h : Flds W v l) (hk : ∀ p u, W.cell? p = some u → W'.cell? p = some u) : Flds W' v l := by
  obtain ⟨a, c, rfl, h1, h2, h3, h4⟩ := h
  refine ⟨a, c, rfl, h1, h2, h3, fun hl => ?_⟩
  obtain ⟨b, off, rfl, hc⟩ := h4 hl
  exact ⟨b, off, rfl, fun j hj => ⟨hk _ _ (hc j hj).1, hk _ _ (hc j hj).2⟩⟩

/-- The fields so far. -/
def sofar (ps : List Line) : List F := (fieldsL (lvals ps)).getD []

theorem sofar_snoc {ps : List Line} {x : Line} {f : F} (h : (fieldsL (lvals ps)).isSome = true) (hx : stepL x.1 = some f) : (fieldsL (lvals (ps ++ [x]))).isSome = true ∧ sofar (ps ++ [x]) = sofar ps ++ [f] := by
  unfold sofar
  rw [lvals_snoc, fields_app, show fieldsL [x.1] = some [f] by rw [fields_some _ hx]; rfl]
  obtain ⟨y, hy⟩ := Option.isSome_iff_exists.1 h
  rw [hy]
  exact ⟨rfl, rfl⟩

theorem sofar_none {ps : List Line} {x : Line} (hx : stepL x.1 = none) : fieldsL (lvals (ps ++ [x])) = none := by
  rw [lvals_snoc, fields_app, show fieldsL [x.1] = none from fields_none _ hx]
  cases fieldsL (lvals ps) <;> rfl

theorem prefix_none {a b : List (T × Bool)} (h : a <+: b) (ha : fieldsL a = none) : fieldsL b = none := by
  obtain ⟨t, rfl⟩ := h
  rw [fields_app, ha]; rfl

theorem fields_cnt (a : List (T × Bool)) : ∀ x, fieldsL a = some x → x.length = a.length := by
  induction a with
  | nil => intro x hx; rw [fields_nil] at hx; cases hx; rfl
  | cons p a ih =>
    intro x hx
    cases h : stepL p with
    | none => rw [fields_none _ h] at hx; cases hx
    | some f =>
      rw [fields_some _ h] at hx
      cases h2 : fieldsL a with
      | none => rw [h2] at hx; cases hx
      | some y =>
        rw [h2] at hx
        cases hx
        simp [ih y h2]

theorem sofar_len (ps : List Line) (h : (fieldsL (lvals ps)).isSome = true) : (sofar ps).length = ps.length := by
  obtain ⟨y, hy⟩ := Option.isSome_iff_exists.1 h
  unfold sofar
  rw [hy]
  show y.length = _
  rw [fields_cnt _ y hy]
  simp [lvals]

/-- What Parse answers. -/
def parseB (l : T) : Bool := (parseL l).isSome

def parseF (l : T) : List F := (parseL l).getD []

end Go.Proofs.YtbgebolamkfnlaaDoor.Head
