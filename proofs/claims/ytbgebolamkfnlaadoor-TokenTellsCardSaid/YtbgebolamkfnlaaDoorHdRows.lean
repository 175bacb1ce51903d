/-
  Rows that the call owns, carried on; appends onto them; small facts of the laws.
-/
import Derived.Test.YtbgebolamkfnlaaDoorHdLaws
namespace Go.Proofs.YtbgebolamkfnlaaDoor.Head
set_option linter.unusedSimpArgs false
set_option linter.unusedVariables false
set_option maxRecDepth 100000


open Go.RowKit Go.Shelf

open Url


/-! ### Rows that the call owns, carried on -/
def OwnF (B : Nat) (W : World) (v : Value) (l : List F) : Prop := W.ownsRow B 36 2 v l.length (cellsF l) ∧ B ≤ W.heap.size

def OwnS (B : Nat) (W : World) (v : Value) (l : List T) : Prop := W.ownsRow B 9 1 v l.length (l.map Path.tx) ∧ B ≤ W.heap.size

theorem OwnF.later {B : Nat} {W W' : World} {v : Value} {l : List F} (h : OwnF B W v l) (hB : Below W.heap.size W W') : OwnF B W' v l := ⟨Path.owns_below h.1 hB, Nat.le_trans h.2 hB.size⟩

theorem OwnS.later {B : Nat} {W W' : World} {v : Value} {l : List T} (h : OwnS B W v l) (hB : Below W.heap.size W W') : OwnS B W' v l := ⟨Path.owns_below h.1 hB, Nat.le_trans h.2 hB.size⟩

theorem OwnF.start (W : World) : OwnF W.heap.size W (.slice none 0 0) [] := ⟨⟨rfl, .inl ⟨rfl, rfl⟩⟩, Nat.le_refl _⟩

theorem OwnS.start (W : World) : OwnS W.heap.size W (.slice none 0 0) [] := ⟨⟨rfl, .inl ⟨rfl, rfl⟩⟩, Nat.le_refl _⟩

theorem OwnF.flds {B : Nat} {W : World} {v : Value} {l : List F} (h : OwnF B W v l) : Flds W v l := owns_flds h.1

theorem OwnS.strs {B : Nat} {W : World} {v : Value} {l : List T} (h : OwnS B W v l) : Path.Strs W v l := Path.owns_strs h.1

theorem wp_app_flds {ops : Array Oper} {rest : List Oper} {o : Oper} {a : Act} {w : World} {Q : Exit → Act → World → Prop} (hgd : o.guard = none) (s x : Operand)
    (ho : o.op = .call { callee := .builtin .append, args := #[s, x], argTypes := #[22, 22] })
    {B : Nat} {v : Value} {l : List F} (hs : a.eval s = v) (hown : OwnF B w v l) {vx : Value} {k : List F} (hx : a.eval x = vx) (hf : Flds w vx k) (hlen : l.length + k.length ≤ 1000000)
    (h : ∀ v' w', OwnF B w' v' (l ++ k) → Below B w w' → wpList Tryd.prog ops Q rest (a.put o.dst v') w') : wpList Tryd.prog ops Q (o :: rest) a w :=
  wpList_append_flds hgd s x ho B v l.length (cellsF l) hs hown.1 vx k hx hf hlen hown.2 fun v' w' h1 h2 =>
    h v' w' ⟨by rw [List.length_append, cellsF_app]; exact h1, Nat.le_trans hown.2 h2.size⟩ (grown_below hown.1 hown.2 h2)

theorem wp_app_strs {ops : Array Oper} {rest : List Oper} {o : Oper} {a : Act} {w : World} {Q : Exit → Act → World → Prop} (hgd : o.guard = none) (s x : Operand)
    (ho : o.op = .call { callee := .builtin .append, args := #[s, x], argTypes := #[26, 26] })
    {B : Nat} {v : Value} {l : List T} (hs : a.eval s = v) (hown : OwnS B w v l) {vx : Value} {k : List T} (hx : a.eval x = vx) (hf : Path.Strs w vx k) (hlen : l.length + k.length ≤ 1000000)
    (h : ∀ v' w', OwnS B w' v' (l ++ k) → Below B w w' → wpList Tryd.prog ops Q rest (a.put o.dst v') w') : wpList Tryd.prog ops Q (o :: rest) a w :=
  wpList_append_strs hgd s x ho B v l.length (l.map Path.tx) hs hown.1 vx k hx hf hlen hown.2 fun v' w' h1 h2 =>
    h v' w' ⟨by rw [List.length_append, List.map_append]; exact h1, Nat.le_trans hown.2 h2.size⟩ (grown_below hown.1 hown.2 h2)

theorem mem_one (a : ByteArray) (h : a.size ≤ 1000000) : ∀ t ∈ [a.data.toList], t.length ≤ 1000000 := fun t ht => by
  obtain rfl : t = a.data.toList := by simpa using ht
  exact h

theorem mem_two (a b : ByteArray) (h : a.size ≤ 1000000) (k : b.size ≤ 1000000) : ∀ t ∈ [a.data.toList, b.data.toList], t.length ≤ 1000000 := fun t ht => by
  rcases List.mem_cons.1 ht with rfl | ht
  · exact h
  · exact mem_one b k t ht

theorem mem_both {l k : List F} (h : ∀ f ∈ l, f.1.length ≤ 1000000 ∧ f.2.length ≤ 1000000) (h' : ∀ f ∈ k, f.1.length ≤ 1000000 ∧ f.2.length ≤ 1000000) : ∀ f ∈ l ++ k, f.1.length ≤ 1000000 ∧ f.2.length ≤ 1000000 := fun f hf => by
  rcases List.mem_append.1 hf with x | x
  · exact h f x
  · exact h' f x

theorem tb_app (x y : T) : tb (x ++ y) = tb x ++ tb y := by
  have : (tb (x ++ y)).data.toList = (tb x ++ tb y).data.toList := by rw [Path.text_append, tb_list, tb_list, tb_list]
  rw [← tb_of (tb (x ++ y)), ← tb_of (tb x ++ tb y), this]

end Go.Proofs.YtbgebolamkfnlaaDoor.Head
