/-
  A slice of fields, of texts, appended onto a row that the call owns.
-/
import Derived.Laws.AppendOwnNone
import Derived.Test.YtbgebolamkfnlaaDoorHdAll
namespace Go.Proofs.YtbgebolamkfnlaaDoor.Head
set_option linter.unusedSimpArgs false
set_option linter.unusedVariables false
set_option maxRecDepth 100000


open Go.RowKit Go.Shelf

open Url

open Path (Strs tx infoText)


theorem cellsF_one (l : List F) : ∀ u ∈ cellsF l, u.oneCell' = true := by
  intro u hu
  unfold cellsF at hu
  obtain ⟨f, _, h⟩ := List.mem_flatMap.1 hu
  simp at h
  rcases h with rfl | rfl <;> rfl

theorem flds_news {W : World} {a : Option Addr} {n c : Nat} {l : List F} (h : Flds W (.slice a n c) l) : (a = none ∧ n = 0 ∧ c = 0 ∧ l = []) ∨ ∃ ad, a = some ad ∧ n = l.length ∧ ∀ j u, (cellsF l)[j]? = some u → W.cell? (ad.add j) = some u := by
  obtain ⟨a', c', e, h1, h2, h3, h4⟩ := h
  cases e
  cases a with
  | none =>
    left
    have hc := h3 rfl
    have : l = [] := List.length_eq_zero_iff.1 (by omega)
    exact ⟨rfl, by rw [this]; rfl, hc, this⟩
  | some ad =>
    right
    refine ⟨ad, rfl, rfl, fun j u hu => ?_⟩
    by_cases hl : l = []
    · rw [hl] at hu; simp [cellsF] at hu
    · obtain ⟨b, off, e, hc⟩ := h4 hl
      cases e
      have hj := (List.getElem?_eq_some_iff.1 hu).1
      rw [cellsF_len] at hj
      have hadd : (⟨b, off, none⟩ : Addr).add j = ⟨b, off + j, none⟩ := by unfold Addr.add; split <;> simp_all
      rw [hadd]
      have hi : j / 2 < l.length := by omega
      have hg := cellsF_get l (j / 2) hi
      have hcc := hc (j / 2) hi
      rcases Nat.mod_two_eq_zero_or_one j with h0 | h1
      · have e : j = j / 2 * 2 := by omega
        rw [e] at hu ⊢
        rw [hg.1] at hu
        rw [← Option.some.inj hu]
        exact hcc.1
      · have e : j = j / 2 * 2 + 1 := by omega
        rw [e] at hu ⊢
        rw [hg.2] at hu
        rw [← Option.some.inj hu]
        exact hcc.2

theorem grown_refl (w : World) (row : Option Nat) : w.grownBy w row := ⟨rfl, rfl, rfl, Nat.le_refl _, fun _ _ _ => rfl⟩

theorem wpList_append_flds {ops : Array Oper} {rest : List Oper} {o : Oper} {a : Act} {w : World} {Q : Exit → Act → World → Prop} (hgd : o.guard = none) (s x : Operand)
    (ho : o.op = .call { callee := .builtin .append, args := #[s, x], argTypes := #[22, 22] })
    (base : Nat) (v : Value) (n : Nat) (xs : List Value) (hs : a.eval s = v) (hown : w.ownsRow base 36 2 v n xs)
    (vx : Value) (l : List F) (hx : a.eval x = vx) (hf : Flds w vx l) (hlen : n + l.length ≤ 1000000) (hbase : base ≤ w.heap.size)
    (h : ∀ v' w', w'.ownsRow base 36 2 v' (n + l.length) (xs ++ cellsF l) → w.grownBy w' v.ownBlock → wpList Tryd.prog ops Q rest (a.put o.dst v') w') : wpList Tryd.prog ops Q (o :: rest) a w := by
  obtain ⟨i0, hi, hz0, hz1, hz2⟩ := info_parts info42
  have hf' := hf
  obtain ⟨ax, c, rfl, -⟩ := hf'
  rcases flds_news hf with ⟨rfl, h0, rfl, rfl⟩ | ⟨ad, rfl, hn, hnews⟩
  · refine wpList_append_own_none hgd s x 22 ho base 36 i0 2 Tryd.underlying22 hi v n xs hs hown hx (h v w ?_ (grown_refl w _))
    simpa [cellsF] using hown
  · exact wpList_append_own w hgd s x 22 ho base 36 i0 (.agg #[.string ⟨#[]⟩, .string ⟨#[]⟩]) 2 32 Tryd.underlying22 hi hz0 hz1 hz2 rfl (by decide) v n xs hs hown ad l.length c (cellsF l) hx (cellsF_len l) hnews (cellsF_one l)
      (by unfold maxLen; omega) (by omega) hbase fun v' w' h1 h2 _ => h v' w' h1 h2

theorem strs_news {W : World} {a : Option Addr} {n c : Nat} {l : List T} (h : Strs W (.slice a n c) l) : (a = none ∧ n = 0 ∧ c = 0 ∧ l = []) ∨ ∃ ad, a = some ad ∧ n = l.length ∧ ∀ j u, (l.map tx)[j]? = some u → W.cell? (ad.add j) = some u := by
  obtain ⟨a', c', e, h1, h2, h3, h4⟩ := h
  cases e
  cases a with
  | none =>
    left
    have hc := h3 rfl
    have : l = [] := List.length_eq_zero_iff.1 (by omega)
    exact ⟨rfl, by rw [this]; rfl, hc, this⟩
  | some ad =>
    right
    refine ⟨ad, rfl, rfl, fun j u hu => ?_⟩
    by_cases hl : l = []
    · rw [hl] at hu; simp at hu
    · obtain ⟨b, off, e, hc⟩ := h4 hl
      cases e
      have hj := (List.getElem?_eq_some_iff.1 hu).1
      rw [List.length_map] at hj
      have hadd : (⟨b, off, none⟩ : Addr).add j = ⟨b, off + j, none⟩ := by unfold Addr.add; split <;> simp_all
      rw [hadd, hc j hj]
      rw [List.getElem?_map, List.getElem?_eq_getElem hj] at hu
      exact hu

theorem wpList_append_strs {ops : Array Oper} {rest : List Oper} {o : Oper} {a : Act} {w : World} {Q : Exit → Act → World → Prop} (hgd : o.guard = none) (s x : Operand)
    (ho : o.op = .call { callee := .builtin .append, args := #[s, x], argTypes := #[26, 26] })
    (base : Nat) (v : Value) (n : Nat) (xs : List Value) (hs : a.eval s = v) (hown : w.ownsRow base 9 1 v n xs)
    (vx : Value) (l : List T) (hx : a.eval x = vx) (hf : Strs w vx l) (hlen : n + l.length ≤ 1000000) (hbase : base ≤ w.heap.size)
    (h : ∀ v' w', w'.ownsRow base 9 1 v' (n + l.length) (xs ++ l.map tx) → w.grownBy w' v.ownBlock → wpList Tryd.prog ops Q rest (a.put o.dst v') w') : wpList Tryd.prog ops Q (o :: rest) a w := by
  obtain ⟨i0, hi, hz0, hz1, hz2⟩ := info_parts infoText
  have hf' := hf
  obtain ⟨ax, c, rfl, -⟩ := hf'
  rcases strs_news hf with ⟨rfl, h0, rfl, rfl⟩ | ⟨ad, rfl, hn, hnews⟩
  · refine wpList_append_own_none hgd s x 26 ho base 9 i0 1 Tryd.underlying26 hi v n xs hs hown hx (h v w ?_ (grown_refl w _))
    simpa using hown
  · exact wpList_append_own w hgd s x 26 ho base 9 i0 (.string ⟨#[]⟩) 1 16 Tryd.underlying26 hi hz0 hz1 hz2 rfl (by decide) v n xs hs hown ad l.length c (l.map tx) hx (by simp) hnews (by simp [tx, Value.oneCell'])
      (by unfold maxLen; omega) (by omega) hbase fun v' w' h1 h2 _ => h v' w' h1 h2

end Go.Proofs.YtbgebolamkfnlaaDoor.Head
