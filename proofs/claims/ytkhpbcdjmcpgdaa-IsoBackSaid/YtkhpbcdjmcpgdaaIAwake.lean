/-
  The calls of package iso over a world that has grown; the chapter's example.
-/
import Derived.Test.YtkhpbcdjmcpgdaaIRef
import Derived.OpenShut
import Derived.Shelf.Abstract
namespace Go.Proofs.Ytkhpbcdjmcpgdaa.Iso
open Go.RowKit
set_option linter.unusedSimpArgs false
set_option linter.unusedVariables false

theorem calls_below {P : Program} {f : Nat} {args : Array Value} {w u : World} {E : Ending} (h : Calls P f args u fun e w' => e = E ∧ Below u.heap.size u w') (hB : Below w.heap.size w u) :
    Calls P f args u fun e w' => e = E ∧ Below w.heap.size w w' := h.mono fun _ _ ⟨he, hb⟩ => ⟨he, hB.trans (hb.mono hB.size)⟩
theorem calls_same {P : Program} {f : Nat} {args : Array Value} {w u : World} {E : Ending} (h : Calls P f args u fun e w' => e = E ∧ u = w') (hB : Below w.heap.size w u) :
    Calls P f args u fun e w' => e = E ∧ Below w.heap.size w w' := h.mono fun _ _ ⟨he, hb⟩ => ⟨he, hb ▸ hB⟩

theorem wide_at (s : ByteArray) (hs : s.size ≤ 1000000) (x : ByteArray) (hx : (⟨(wide s.data.toList).toArray⟩ : ByteArray) = x) {w u : World} (hB : Below w.heap.size w u) :
    Calls Try.prog 13 #[.string s] u fun e w' => e = .returned (.string x) ∧ Below w.heap.size w w' := by
  subst hx
  exact calls_below (wide_any s hs u) hB
theorem narrow_at (s : ByteArray) (hs : s.size ≤ 1000000) (x : ByteArray) (b : Bool) (hx : narT s.data.toList = x) (hb : narB s.data.toList = b) {w u : World} (hB : Below w.heap.size w u) :
    Calls Try.prog 10 #[.string s] u fun e w' => e = .returned (.tuple #[.string x, .bool b]) ∧ Below w.heap.size w w' := by
  subst hx hb
  exact calls_below (narrow_any s hs u) hB
theorem count_at (s : ByteArray) (hs : s.size ≤ maxLen) (n : Int) (hn : (count s.data.toList : Int) = n) {w u : World} (hB : Below w.heap.size w u) :
    Calls Try.prog 15 #[.string s] u fun e w' => e = .returned (.int .i64 n) ∧ Below w.heap.size w w' := by
  subst hn
  exact calls_below (count_any s hs u) hB
theorem plain_at (s : ByteArray) (hs : s.size ≤ maxLen) (b : Bool) (hb : plainB s.data.toList = b) {w u : World} (hB : Below w.heap.size w u) :
    Calls Try.prog 17 #[.string s] u fun e w' => e = .returned (.bool b) ∧ Below w.heap.size w w' := by
  subst hb
  exact calls_same (plain_any s hs u) hB
theorem refWide_at (s : ByteArray) (hs : s.size ≤ 1000000) (x : ByteArray) (hx : (⟨(wide s.data.toList).toArray⟩ : ByteArray) = x) {w u : World} (hB : Below w.heap.size w u) :
    Calls Try.prog 14 #[.string s] u fun e w' => e = .returned (.string x) ∧ Below w.heap.size w w' := by
  subst hx
  exact calls_below (refWide_any s hs u) hB
theorem refNarrow_at (s : ByteArray) (hs : s.size ≤ 1000000) (x : ByteArray) (b : Bool) (hx : narT s.data.toList = x) (hb : narB s.data.toList = b) {w u : World} (hB : Below w.heap.size w u) :
    Calls Try.prog 11 #[.string s] u fun e w' => e = .returned (.tuple #[.string x, .bool b]) ∧ Below w.heap.size w w' := by
  subst hx hb
  exact calls_below (refNarrow_any s hs u) hB
theorem refCount_at (s : ByteArray) (hs : s.size ≤ maxLen) (n : Int) (hn : (count s.data.toList : Int) = n) {w u : World} (hB : Below w.heap.size w u) :
    Calls Try.prog 16 #[.string s] u fun e w' => e = .returned (.int .i64 n) ∧ Below w.heap.size w w' := by
  subst hn
  exact calls_below (refCount_any s hs u) hB
theorem refPlain_at (s : ByteArray) (hs : s.size ≤ maxLen) (b : Bool) (hb : plainB s.data.toList = b) {w u : World} (hB : Below w.heap.size w u) :
    Calls Try.prog 12 #[.string s] u fun e w' => e = .returned (.bool b) ∧ Below w.heap.size w w' := by
  subst hb
  exact calls_same (refPlain_any s hs u) hB

theorem narT_some {l x : List UInt8} (h : narrow l = some x) : narT l = ⟨x.toArray⟩ := by unfold narT; rw [h]; rfl
theorem narB_some {l x : List UInt8} (h : narrow l = some x) : narB l = true := by unfold narB; rw [h]; rfl
theorem narT_none {l : List UInt8} (h : narrow l = none) : narT l = ⟨#[]⟩ := by unfold narT; rw [h]; rfl
theorem narB_none {l : List UInt8} (h : narrow l = none) : narB l = false := by unfold narB; rw [h]; rfl

theorem ex_narrow : narrow [195, 169] = some [233] := (narrow_wide0 [233]).1
theorem ex_none : narrow [255] = none := narrow_no (by decide +kernel)
theorem ex_count : count [97, 195, 169] = 2 := (narrow_wide0 [97, 233]).2

set_option maxRecDepth 100000 in
set_option maxHeartbeats 1000000 in
theorem awake_calls (w : World) :
    Calls Try.prog 9 #[] w fun e W' => e = .returned (.bool true) ∧ Below w.heap.size w W' := by
  go_enter Try.func9, Try.ntmps9
  go_wp2_with fail
  refine (narrow_at ⟨#[195, 169]⟩ (by decide +kernel) ⟨#[233]⟩ true (narT_some ex_narrow) (narB_some ex_narrow) (Below.refl _ w)).mono ?_
  rintro e w1 ⟨rfl, hB1⟩
  go_wp2_with fail
  refine (narrow_at ⟨#[255]⟩ (by decide +kernel) ⟨#[]⟩ false (narT_none ex_none) (narB_none ex_none) hB1).mono ?_
  rintro e w2 ⟨rfl, hB2⟩
  go_wp2_with fail
  refine (wide_at ⟨#[233]⟩ (by decide +kernel) ⟨#[195, 169]⟩ (by decide +kernel) hB2).mono ?_
  rintro e w3 ⟨rfl, hB3⟩
  go_wp2_with fail
  refine (count_at ⟨#[97, 195, 169]⟩ (by decide +kernel) 2 (by exact congrArg (fun n : Nat => (n : Int)) ex_count) hB3).mono ?_
  rintro e w4 ⟨rfl, hB4⟩
  go_wp2_with fail
  refine (plain_at ⟨#[97]⟩ (by decide +kernel) true (by decide +kernel) hB4).mono ?_
  rintro e w5 ⟨rfl, hB5⟩
  go_wp2_with fail
  refine (plain_at ⟨#[128]⟩ (by decide +kernel) false (by decide +kernel) hB5).mono ?_
  rintro e w6 ⟨rfl, hB6⟩
  go_wp2
  go_ret
  exact ⟨rfl, hB6⟩

theorem awake_at {w u : World} (hB : Below w.heap.size w u) : Calls Try.prog 9 #[] u fun e w' => e = .returned (.bool true) ∧ Below w.heap.size w w' := calls_below (awake_calls u) hB

theorem byte_of {a : Int} (h : (Lit.int .u8 a).wf = true) : ∃ x : UInt8, a = (x.toNat : Int) := by
  have hb := bounds_u8 h
  refine ⟨UInt8.ofNat a.toNat, ?_⟩
  rw [ofNat_toNat _ (by omega)]
  omega
/-- A slice of one byte as a text. -/
theorem one_conv (w : World) (x : UInt8) : (convert 29 9 (.slice (some ⟨w.heap.size, 0, none⟩) 1 1)).run Try.prog (w.alloc (.cells #[.int .u8 (x.toNat : Int)] 5)) = .ok (.string ⟨#[x]⟩) (w.alloc (.cells #[.int .u8 (x.toNat : Int)] 5)) := by
  refine run_convert_bytes_back (w.alloc (.cells #[.int .u8 (x.toNat : Int)] 5)) 29 9 5 ⟨w.heap.size, 0, none⟩ 1 [x] Try.underlying29 Try.underlying5 Try.underlying9 ?_
  intro j hj
  obtain rfl : j = 0 := by simp at hj; omega
  simp [Addr.add, World.cell?_alloc_new]
theorem text_append (s t : ByteArray) : (s ++ t).data.toList = s.data.toList ++ t.data.toList := by
  rw [ByteArray.data_append, Array.toList_append]
theorem size_of (l : List UInt8) : (⟨l.toArray⟩ : ByteArray).size = l.length := rfl
theorem text_of (s : ByteArray) : (⟨s.data.toList.toArray⟩ : ByteArray) = s := by cases s; rfl
theorem text_eq {s t : ByteArray} (h : s.data.toList = t.data.toList) : s = t := by rw [← text_of s, ← text_of t, h]

end Go.Proofs.Ytkhpbcdjmcpgdaa.Iso
