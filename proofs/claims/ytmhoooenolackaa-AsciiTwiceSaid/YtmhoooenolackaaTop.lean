/-
  Trim, Clean, Same, and the chapter's examples (awake).
-/
import Derived.Test.YtmhoooenolackaaLower
import Derived.Test.YtmhoooenolackaaCutAll
import Derived.Test.YtmhoooenolackaaCutEnds
namespace Go.Proofs.Ytmhoooenolackaa
open Go.RowKit Go.Shelf
set_option linter.unusedSimpArgs false
set_option linter.unusedVariables false

set_option maxHeartbeats 400000 in
theorem upTo_calls (b : Int) (w : World) :
    Calls Try.prog 28 #[.int .u8 b] w fun e w' => e = .returned (.func (.func 32) #[] #[.pointer (some ⟨w.heap.size, 0, none⟩)]) ∧ w.alloc (.cells #[.int .u8 b] 5) = w' := by
  go_enter Try.func28, Try.ntmps28
  go_wp2
  go_ret
  exact ⟨rfl, rfl⟩

set_option maxHeartbeats 400000 in
theorem oneOf_calls (a b d : Int) (w : World) :
    Calls Try.prog 30 #[.int .u8 a, .int .u8 b, .int .u8 d] w fun e w' => e = .returned (.func (.func 33) #[] #[.pointer (some ⟨w.heap.size, 0, none⟩), .pointer (some ⟨w.heap.size + 1, 0, none⟩), .pointer (some ⟨w.heap.size + 2, 0, none⟩)]) ∧ ((w.alloc (.cells #[.int .u8 a] 5)).alloc (.cells #[.int .u8 b] 5)).alloc (.cells #[.int .u8 d] 5) = w' := by
  go_enter Try.func30, Try.ntmps30
  go_wp2
  go_ret
  exact ⟨rfl, rfl⟩

set_option maxHeartbeats 400000 in
theorem trim_calls (s : ByteArray) (hs : s.size ≤ maxLen) (hb47 : s.size ≤ 140737488355328) (w : World) :
    Calls Try.prog 20 #[.string s] w fun e W' => e = .returned (.string ⟨(trim s.data.toList).toArray⟩) ∧ Below w.heap.size w W' := by
  have bP := Boxed.new w 5 (.int .u8 32)
  have hB := Lib.hid ((Below.refl w.heap.size w).alloc (Nat.le_refl _) (.cells #[.int .u8 32] 5))
  go_enter Try.func20, Try.ntmps20
  go_wp2_with (first | (go_at_call 28; refine (upTo_calls _ _).mono ?_; rintro e w' ⟨rfl, rfl⟩) | (go_at_call 27; refine (cutEnds_calls _ hs hb47 _ _ bP.cell).mono ?_; rintro e w' ⟨rfl, hB2⟩))
  go_ret
  exact ⟨rfl, hB.out.trans (hB2.mono (by simp))⟩

theorem trim_length (l : List UInt8) : (trim l).length ≤ l.length := by
  rw [trim_take, List.length_take]
  have := outL_length l
  omega

set_option maxHeartbeats 400000 in
theorem clean_calls (s : ByteArray) (hs : s.size ≤ maxLen) (hb47 : s.size ≤ 140737488355328) (w : World) :
    Calls Try.prog 22 #[.string s] w fun e W' => e = .returned (.string ⟨(clean s.data.toList).toArray⟩) ∧ Below w.heap.size w W' := by
  have hl := trim_length s.data.toList
  have hz : (⟨(trim s.data.toList).toArray⟩ : ByteArray).size = (trim s.data.toList).length := rfl
  have hz2 : s.data.toList.length = s.size := rfl
  have k1 : (⟨(trim s.data.toList).toArray⟩ : ByteArray).size ≤ maxLen := by omega
  have k2 : (⟨(trim s.data.toList).toArray⟩ : ByteArray).size ≤ 140737488355328 := by omega
  clear hl hz hz2
  have K1 := Lib.hid k1
  have K2 := Lib.hid k2
  clear k1 k2
  go_enter Try.func22, Try.ntmps22
  go_wp2_with fail
  refine (trim_calls s hs hb47 _).mono ?_
  rintro e w1 ⟨rfl, hB1⟩
  go_wp2_with fail
  refine (oneOf_calls _ _ _ _).mono ?_
  rintro e w' ⟨rfl, rfl⟩
  have b1 := ((Boxed.new w1 5 (.int .u8 9)).alloc (.cells #[.int .u8 10] 5)).alloc (.cells #[.int .u8 13] 5)
  have b2 := (Boxed.new (w1.alloc (.cells #[.int .u8 9] 5)) 5 (.int .u8 10)).alloc (.cells #[.int .u8 13] 5)
  have b3 := Boxed.new ((w1.alloc (.cells #[.int .u8 9] 5)).alloc (.cells #[.int .u8 10] 5)) 5 (.int .u8 13)
  rw [World.size_alloc] at b2
  rw [World.size_alloc, World.size_alloc] at b3
  go_wp2_with fail
  refine (cutAll_calls _ K1.out K2.out _ _ _ _ b1.cell b2.cell b3.cell).mono ?_
  rintro e w2 ⟨rfl, hB2⟩
  have hB3 := Lib.hid (hB1.trans (((((Below.refl w.heap.size w1).alloc hB1.size (.cells #[.int .u8 9] 5)).alloc (by have := hB1.size; simp; omega) (.cells #[.int .u8 10] 5)).alloc (by have := hB1.size; simp; omega) (.cells #[.int .u8 13] 5)).trans (hB2.mono (by have := hB1.size; simp; omega))))
  go_wp2
  go_ret
  exact ⟨rfl, hB3.out⟩

set_option maxHeartbeats 400000 in
theorem same_calls (s t : ByteArray) (hs : s.size ≤ maxLen) (hb47 : s.size ≤ 140737488355328) (ht : t.size ≤ maxLen) (tb47 : t.size ≤ 140737488355328) (w : World) :
    Calls Try.prog 19 #[.string s, .string t] w fun e W' => e = .returned (.bool (lower s.data.toList == lower t.data.toList)) ∧ Below w.heap.size w W' := by
  go_enter Try.func19, Try.ntmps19
  go_wp2_with fail
  refine (lower_calls s hs hb47 _).mono ?_
  rintro e w1 ⟨rfl, hB1⟩
  go_wp2_with fail
  refine (lower_calls t ht tb47 _).mono ?_
  rintro e w2 ⟨rfl, hB2⟩
  have hB3 := Lib.hid (hB1.trans (hB2.mono hB1.size))
  go_wp2
  go_ret
  exact ⟨rfl, hB3.out⟩

end Go.Proofs.Ytmhoooenolackaa
