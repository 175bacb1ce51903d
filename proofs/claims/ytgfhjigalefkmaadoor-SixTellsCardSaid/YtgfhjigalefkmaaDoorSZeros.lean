/-
  Texts in an array on the heap; four digits of a piece, told by a table's places.
-/
import Derived.Test.YtgfhjigalefkmaaDoorSQuiet
import Derived.IntWalk
import Derived.RegionTactic
namespace Go.Proofs.YtgfhjigalefkmaaDoor.Six
open Go.RowKit
set_option linter.unusedSimpArgs false
set_option linter.unusedVariables false
/-- The first k texts. -/
def rowT (ts : List (List UInt8)) (k : Nat) : List ByteArray := ts.mapIdx fun j t => if j < k then ⟨t.toArray⟩ else ⟨#[]⟩
theorem rowT_len (ts : List (List UInt8)) (k : Nat) : (rowT ts k).length = ts.length := by simp [rowT]
theorem rowT_next (ts : List (List UInt8)) (k : Nat) (h' : k < (rowT ts k).length) : (rowT ts k)[k] = ⟨#[]⟩ := by simp [rowT]
theorem rowT_set (ts : List (List UInt8)) (k : Nat) (h : k < ts.length) : (rowT ts k).set k ⟨ts[k].toArray⟩ = rowT ts (k + 1) := by
  apply List.ext_getElem
  · simp [rowT]
  · intro j h1 h2
    rw [List.getElem_set]
    simp only [rowT, List.getElem_mapIdx]
    by_cases e : k = j
    · subst e; rw [if_pos rfl, if_pos (by omega)]
    · rw [if_neg e]
      by_cases hc : j < k
      · rw [if_pos hc, if_pos (by omega)]
      · rw [if_neg hc, if_neg (by omega)]
theorem rowT_at (ts : List (List UInt8)) (h8 : ts.length = 8) (j : Nat) (h : j < ts.length) (h' : j < (rowT ts 8).length) : (rowT ts 8)[j] = ⟨ts[j].toArray⟩ := by
  simp only [rowT, List.getElem_mapIdx]
  rw [if_pos (by omega)]
theorem rowT_new (w : World) (ts : List (List UInt8)) (h8 : ts.length = 8) : HeldS (w.alloc (.cells #[.string ⟨#[]⟩, .string ⟨#[]⟩, .string ⟨#[]⟩, .string ⟨#[]⟩, .string ⟨#[]⟩, .string ⟨#[]⟩, .string ⟨#[]⟩, .string ⟨#[]⟩] 34)) w.heap.size (rowT ts 0) := by
  intro j hj
  have hj' : j < 8 := by rw [rowT_len] at hj; omega
  have e : (rowT ts 0)[j] = ⟨#[]⟩ := by simp [rowT]
  rw [e, World.cell?_alloc_at _ _ _ _ rfl, World.frozen?_alloc_at _ _ _ _ rfl]
  obtain rfl | rfl | rfl | rfl | rfl | rfl | rfl | rfl : j = 0 ∨ j = 1 ∨ j = 2 ∨ j = 3 ∨ j = 4 ∨ j = 5 ∨ j = 6 ∨ j = 7 := by omega
  all_goals simp
def digs : ByteArray := ⟨#[48, 49, 50, 51, 52, 53, 54, 55, 56, 57, 97, 98, 99, 100, 101, 102]⟩
theorem digs_all : ∀ d : Fin 16, digs[d.val]'(Nat.lt_of_lt_of_eq d.isLt rfl) = hexC d.val := by decide +kernel
theorem digs_at (d : Nat) (h : d < 16) (h' : d < digs.size) : digs[d] = hexC d := digs_all ⟨d, h⟩
theorem digs_lit (d : Nat) (h : d < 16) (h' : d < (⟨#[48, 49, 50, 51, 52, 53, 54, 55, 56, 57, 97, 98, 99, 100, 101, 102]⟩ : ByteArray).size) : (⟨#[48, 49, 50, 51, 52, 53, 54, 55, 56, 57, 97, 98, 99, 100, 101, 102]⟩ : ByteArray)[d]'h' = hexC d := digs_at d h h'
/-- Four bytes as a text. -/
theorem four_conv (w : World) (c1 c2 c3 c4 : UInt8) : (convert 31 9 (.slice (some ⟨w.heap.size, 0, none⟩) 4 4)).run Tryd.prog (w.alloc (.cells #[.int .u8 (c1.toNat : Int), .int .u8 (c2.toNat : Int), .int .u8 (c3.toNat : Int), .int .u8 (c4.toNat : Int)] 5)).drew
    = .ok (.string ⟨#[c1, c2, c3, c4]⟩) (w.alloc (.cells #[.int .u8 (c1.toNat : Int), .int .u8 (c2.toNat : Int), .int .u8 (c3.toNat : Int), .int .u8 (c4.toNat : Int)] 5)).drew := by
  refine run_convert_bytes_back (P := Tryd.prog) _ 31 9 5 ⟨w.heap.size, 0, none⟩ 4 [c1, c2, c3, c4] Tryd.underlying31 Tryd.underlying5 Tryd.underlying9 (fun j hj => ?_)
  have e : (⟨w.heap.size, 0, none⟩ : Addr).add j = ⟨w.heap.size, j, none⟩ := by unfold Addr.add; split <;> simp_all
  rw [e]
  show (w.alloc _).cell? _ = _
  rw [World.cell?_alloc_at _ _ _ _ rfl]
  have hj' : j < 4 := hj
  obtain rfl | rfl | rfl | rfl : j = 0 ∨ j = 1 ∨ j = 2 ∨ j = 3 := by omega
  all_goals rfl
/-- A text's last byte. -/
theorem last_of (x : ByteArray) (r : List UInt8) (c : UInt8) (h : x.data.toList = r ++ [c]) : 0 < x.size ∧ x.toList.isEmpty = false ∧ ∀ h' : x.size - 1 < x.size, x[x.size - 1]'h' = c := by
  have hl : x.size = r.length + 1 := by
    have : x.data.toList.length = x.size := rfl
    rw [← this, h]; simp
  refine ⟨by omega, ?_, fun h' => ?_⟩
  · rw [ByteArray.toList_eq, h]; simp
  · have h1 : x.data.toList[x.size - 1]? = some c := by rw [h, hl]; simp
    have h2 : x.data.toList[x.size - 1]? = some (x[x.size - 1]'h') := List.getElem?_eq_getElem (by exact h')
    rw [h2] at h1
    exact Option.some.inj h1
theorem long_step (ts : List (List UInt8)) (k : Nat) (hk : k < ts.length) (h1 : 1 ≤ k) : joinC (ts.take (max (k + 1) 1)) = joinC (ts.take (max k 1)) ++ 58 :: ts[k] := by
  rw [show max (k + 1) 1 = k + 1 by omega, show max k 1 = k by omega, take_snocT ts k hk]
  refine joinC_snoc _ _ fun e => ?_
  have := congrArg List.length e
  rw [List.length_take, List.length_nil] at this
  omega
theorem bytes_app (a b : List UInt8) : (⟨(a ++ b).toArray⟩ : ByteArray) = ⟨a.toArray⟩ ++ ⟨b.toArray⟩ := by
  apply ByteArray.ext
  simp
end Go.Proofs.YtgfhjigalefkmaaDoor.Six
