/-
  slices.IndexFunc at fields, Set(l, name, value).
-/
import Derived.Test.YtbgebolamkfnlaaDoorHdApp
namespace Go.Proofs.YtbgebolamkfnlaaDoor.Head
set_option linter.unusedSimpArgs false
set_option linter.unusedVariables false
set_option maxRecDepth 100000


open Go.RowKit Go.Shelf

open Url

open Path (Strs tx infoText)


/-- How many stand ahead of the first one that goes. -/
def atN (l : List F) (ns : List T) : Nat := (l.takeWhile fun f => !goesB ns f).length

def idxI (l : List F) (ns : List T) : Int := if atN l ns < l.length then (atN l ns : Nat) else -1

theorem atN_le (l : List F) (ns : List T) : atN l ns ≤ l.length := (List.takeWhile_prefix _).length_le

theorem atN_hit (l : List F) (ns : List T) (k : Nat) (h : k < l.length) (h0 : ∀ j (hj : j < l.length), j < k → goesB ns l[j] = false) (hg : goesB ns l[k] = true) : atN l ns = k := by
  induction l generalizing k with
  | nil => simp at h
  | cons f l ih =>
    unfold atN
    match k, h, h0, hg with
    | 0, _, _, hg =>
      rw [List.takeWhile_cons_of_neg (by simpa using hg)]; rfl
    | k + 1, h, h0, hg =>
      have hf : goesB ns f = false := h0 0 (by simp) (by omega)
      rw [List.takeWhile_cons_of_pos (by simp [hf]), List.length_cons]
      have := ih k (by simpa using h) (fun j hj hjk => by have := h0 (j + 1) (by simp; omega) (by omega); rwa [List.getElem_cons_succ] at this) (by simpa using hg)
      unfold atN at this
      rw [this]

theorem atN_none (l : List F) (ns : List T) (h0 : ∀ j (hj : j < l.length), goesB ns l[j] = false) : atN l ns = l.length := by
  unfold atN
  rw [(List.takeWhile_prefix (fun f => !goesB ns f)).eq_of_length_le]
  induction l with
  | nil => simp
  | cons f l ih =>
    have hf : goesB ns f = false := h0 0 (by simp)
    rw [List.takeWhile_cons_of_pos (by simp [hf])]
    simpa using ih fun j hj => by have := h0 (j + 1) (by simp; omega); rwa [List.getElem_cons_succ] at this

theorem idx_hit (l : List F) (ns : List T) (k : Nat) (h : k < l.length) (h0 : ∀ j (hj : j < l.length), j < k → goesB ns l[j] = false) (hg : goesB ns l[k] = true) : idxI l ns = (k : Int) := by
  unfold idxI
  rw [atN_hit l ns k h h0 hg, if_pos h]

theorem idx_none (l : List F) (ns : List T) (h0 : ∀ j (hj : j < l.length), goesB ns l[j] = false) : idxI l ns = -1 := by
  unfold idxI
  rw [atN_none l ns h0, if_neg (by omega)]

theorem take_at (l : List F) (ns : List T) : l.take (atN l ns) = l.takeWhile fun f => !goesB ns f := (List.prefix_iff_eq_take.1 (List.takeWhile_prefix _)).symm

theorem drop_at (l : List F) (ns : List T) : l.drop (atN l ns) = l.dropWhile fun f => !goesB ns f := by
  have h := List.takeWhile_append_dropWhile (p := fun f => !goesB ns f) (l := l)
  unfold atN
  generalize (l.takeWhile fun f => !goesB ns f) = p at h ⊢
  generalize (l.dropWhile fun f => !goesB ns f) = q at h ⊢
  rw [← h]
  simp

theorem set_at (l : List F) (n v : T) : setL l n v = dropL (l.take (atN l [n])) [n] ++ (n, v) :: dropL (l.drop (atN l [n])) [n] := by
  rw [take_at, drop_at]; rfl

/-- A part of a slice of fields. -/
theorem flds_take {W : World} {a : Option Addr} {c n : Nat} {l : List F} (h : Flds W (.slice a n c) l) (k : Nat) (hk : k ≤ l.length) : Flds W (.slice a k c) (l.take k) := by
  obtain ⟨a', c', e, h1, h2, h3, h4⟩ := h
  cases e
  refine ⟨a, c, by rw [List.length_take, Nat.min_eq_left hk], by rw [List.length_take]; omega, h2, h3, fun hne => ?_⟩
  obtain ⟨b, off, rfl, hc⟩ := h4 (fun e => hne (by rw [e]; simp))
  refine ⟨b, off, rfl, fun j hj => ?_⟩
  rw [List.length_take] at hj
  rw [List.getElem_take]
  exact hc j (by omega)

theorem flds_drop {W : World} {a : Option Addr} {c n : Nat} {l : List F} (h : Flds W (.slice a n c) l) (k : Nat) (hk : k ≤ l.length) : Flds W (.slice (Option.map (fun x => x.add (k * 2)) a) (n - k) (c - k)) (l.drop k) := by
  obtain ⟨a', c', e, h1, h2, h3, h4⟩ := h
  cases e
  refine ⟨_, _, by rw [List.length_drop], by rw [List.length_drop]; omega, by omega, (fun e => ?_), fun hne => ?_⟩
  · have : a = none := by cases a <;> simp_all
    have := h3 this
    omega
  · obtain ⟨b, off, rfl, hc⟩ := h4 (fun e => hne (by rw [e]; simp))
    have hadd : (⟨b, off, none⟩ : Addr).add (k * 2) = ⟨b, off + k * 2, none⟩ := by unfold Addr.add; split <;> simp_all
    refine ⟨b, off + k * 2, by rw [Option.map_some, hadd], fun j hj => ?_⟩
    rw [List.length_drop] at hj
    rw [List.getElem_drop]
    have := hc (k + j) (by omega)
    rw [show off + (k + j) * 2 = off + k * 2 + j * 2 by omega] at this
    exact this

theorem flds_none (W : World) (a : Option Addr) : Flds W (.slice a 0 0) [] := ⟨a, 0, rfl, Nat.le_refl _, Nat.zero_le _, fun _ => rfl, fun h => absurd rfl h⟩

theorem set_row (D1 D2 : List F) (n x : ByteArray) : cellsF (D1 ++ (n.data.toList, x.data.toList) :: D2) = cellsF D1 ++ [.string n, .string x] ++ cellsF D2 := by
  rw [cellsF_app, show ((n.data.toList, x.data.toList) :: D2) = [(n.data.toList, x.data.toList)] ++ D2 from rfl, cellsF_app, ← List.append_assoc]
  rw [show cellsF [(n.data.toList, x.data.toList)] = [Value.string (tb n.data.toList), .string (tb x.data.toList)] from rfl, tb_of, tb_of]

theorem set_cnt (D1 D2 : List F) (f : F) : (D1 ++ f :: D2).length = D1.length + 1 + D2.length := by simp; omega

end Go.Proofs.YtbgebolamkfnlaaDoor.Head
