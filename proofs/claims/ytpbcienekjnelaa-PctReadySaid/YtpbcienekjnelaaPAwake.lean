/-
  The calls of package pct over a world that has grown; the chapter's example.
-/
import Derived.Test.YtpbcienekjnelaaPFacts
import Derived.OpenShut
namespace Go.Proofs.Ytpbcienekjnelaa.Pct
open Go.RowKit
set_option linter.unusedSimpArgs false
set_option linter.unusedVariables false

theorem calls_below {P : Program} {f : Nat} {args : Array Value} {w u : World} {E : Ending} (h : Calls P f args u fun e w' => e = E ∧ Below u.heap.size u w') (hB : Below w.heap.size w u) :
    Calls P f args u fun e w' => e = E ∧ Below w.heap.size w w' := h.mono fun _ _ ⟨he, hb⟩ => ⟨he, hB.trans (hb.mono hB.size)⟩

theorem in_at (set : Int) (x : UInt8) (b : Bool) (hb : inB set x = b) {w u : World} (hB : Below w.heap.size w u) :
    Calls Try.prog 13 #[.int .i64 set, .int .u8 (x.toNat : Int)] u fun e w' => e = .returned (.bool b) ∧ Below w.heap.size w w' := by
  subst hb
  exact calls_below (in_any set x u) hB
theorem ready_at (s : ByteArray) (hs : s.size ≤ maxLen) (set : Int) (b : Bool) (hb : readyB set s.data.toList = b) {w u : World} (hB : Below w.heap.size w u) :
    Calls Try.prog 18 #[.string s, .int .i64 set] u fun e w' => e = .returned (.bool b) ∧ Below w.heap.size w w' := by
  subst hb
  exact calls_below (ready_any s hs set u) hB
theorem encode_at (s : ByteArray) (hs : s.size ≤ 1000000) (set : Int) (x : ByteArray) (hx : (⟨(encode set s.data.toList).toArray⟩ : ByteArray) = x) {w u : World} (hB : Below w.heap.size w u) :
    Calls Try.prog 14 #[.string s, .int .i64 set] u fun e w' => e = .returned (.string x) ∧ Below w.heap.size w w' := by
  subst hx
  exact calls_below (encode_any s hs set u) hB
theorem decode_at (s : ByteArray) (hs : s.size ≤ 1000000) (x : ByteArray) (hx : (⟨(decode s.data.toList).toArray⟩ : ByteArray) = x) {w u : World} (hB : Below w.heap.size w u) :
    Calls Try.prog 16 #[.string s] u fun e w' => e = .returned (.string x) ∧ Below w.heap.size w w' := by
  subst hx
  exact calls_below (decode_any s hs u) hB

theorem ex_decode : decode [37, 50, 48, 37, 67, 51, 37, 65, 57] = [32, 195, 169] := by
  rw [decode_some (x := 32) (by decide +kernel)]
  show 32 :: decode [37, 67, 51, 37, 65, 57] = _
  rw [decode_some (x := 195) (by decide +kernel)]
  show 32 :: 195 :: decode [37, 65, 57] = _
  rw [decode_some (x := 169) (by decide +kernel)]
  show 32 :: 195 :: 169 :: decode [] = _
  rw [decode_nil]

set_option maxRecDepth 100000 in
set_option maxHeartbeats 1000000 in
theorem awake_calls (w : World) :
    Calls Try.prog 10 #[] w fun e W' => e = .returned (.bool true) ∧ Below w.heap.size w W' := by
  go_enter Try.func10, Try.ntmps10
  go_wp2_with fail
  refine (encode_at ⟨#[32, 195, 169]⟩ (by decide +kernel) 3 ⟨#[37, 50, 48, 37, 67, 51, 37, 65, 57]⟩ (by decide +kernel) (Below.refl _ w)).mono ?_
  rintro e w1 ⟨rfl, hB1⟩
  go_wp2_with fail
  refine (decode_at ⟨#[37, 50, 48, 37, 67, 51, 37, 65, 57]⟩ (by decide +kernel) ⟨#[32, 195, 169]⟩ (congrArg (fun l : List UInt8 => (⟨l.toArray⟩ : ByteArray)) ex_decode) hB1).mono ?_
  rintro e w2 ⟨rfl, hB2⟩
  go_wp2_with fail
  refine (ready_at ⟨#[37, 50, 48, 37, 67, 51, 37, 65, 57]⟩ (by decide +kernel) 4 true (by decide +kernel) hB2).mono ?_
  rintro e w3 ⟨rfl, hB3⟩
  go_wp2_with fail
  refine (ready_at ⟨#[97, 32, 98]⟩ (by decide +kernel) 1 false (by decide +kernel) hB3).mono ?_
  rintro e w4 ⟨rfl, hB4⟩
  go_wp2_with fail
  refine (in_at 4 47 true (by decide +kernel) hB4).mono ?_
  rintro e w5 ⟨rfl, hB5⟩
  go_wp2_with fail
  refine (in_at 3 47 false (by decide +kernel) hB5).mono ?_
  rintro e w6 ⟨rfl, hB6⟩
  go_wp2
  go_ret
  exact ⟨rfl, hB6⟩

theorem awake_at {w u : World} (hB : Below w.heap.size w u) : Calls Try.prog 10 #[] u fun e w' => e = .returned (.bool true) ∧ Below w.heap.size w w' := calls_below (awake_calls u) hB

theorem byte_of {a : Int} (h : (Lit.int .u8 a).wf = true) : ∃ x : UInt8, a = (x.toNat : Int) := by
  have hb := bounds_u8 h
  refine ⟨UInt8.ofNat a.toNat, ?_⟩
  rw [ofNat_toNat _ (by omega)]
  omega

/-- A slice of one byte as a text. -/
theorem one_conv (w : World) (x : UInt8) : (convert 30 9 (.slice (some ⟨w.heap.size, 0, none⟩) 1 1)).run Try.prog (w.alloc (.cells #[.int .u8 (x.toNat : Int)] 5)) = .ok (.string ⟨#[x]⟩) (w.alloc (.cells #[.int .u8 (x.toNat : Int)] 5)) := by
  refine run_convert_bytes_back (w.alloc (.cells #[.int .u8 (x.toNat : Int)] 5)) 30 9 5 ⟨w.heap.size, 0, none⟩ 1 [x] Try.underlying30 Try.underlying5 Try.underlying9 ?_
  intro j hj
  obtain rfl : j = 0 := by simp at hj; omega
  simp [Addr.add, World.cell?_alloc_new]
/-- Has a text no percent sign? -/
def plainB (l : List UInt8) : Bool := l.all fun c => c != 37
theorem plain_snoc (s : ByteArray) (k : Nat) (h : k < s.size) : plainB (s.data.toList.take (k + 1)) = (plainB (s.data.toList.take k) && (s[k] != 37)) := by
  unfold plainB
  rw [Ascii.take_snoc s k h, List.all_append]
  simp
theorem bne37 (x : UInt8) : ((x.toNat : Int) != 37) = (x != 37) := by
  rw [ne37, Bool.eq_iff_iff]
  simp
theorem eq37 (x : UInt8) : ((x.toNat : Int) == 37) = decide (x = 37) := by
  rw [Bool.eq_iff_iff]
  simp [UInt8.toNat_inj.symm]
  omega
theorem text_append (s t : ByteArray) : (s ++ t).data.toList = s.data.toList ++ t.data.toList := by
  rw [ByteArray.data_append, Array.toList_append]
theorem size_of (l : List UInt8) : (⟨l.toArray⟩ : ByteArray).size = l.length := rfl

end Go.Proofs.Ytpbcienekjnelaa.Pct
