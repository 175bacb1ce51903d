/-
  The chapter's examples answer as the chapter says (awake); 'nothing that was there has changed', step behind step.
-/
import Derived.Test.YtdmjolmclnnngaaShow
import Derived.Test.YtdmjolmclnnngaaRead
namespace Go.Proofs.Ytdmjolmclnnngaa
open Go.RowKit
set_option linter.unusedSimpArgs false
set_option linter.unusedVariables false

theorem below2 {w u1 u2 : World} (h1 : Below w.heap.size w u1) (h2 : Below u1.heap.size u1 u2) : Below w.heap.size w u2 := h1.trans (h2.mono h1.size)
theorem below3 {w u1 u2 u3 : World} (h1 : Below w.heap.size w u1) (h2 : Below u1.heap.size u1 u2) (h3 : Below u2.heap.size u2 u3) : Below w.heap.size w u3 := below2 (below2 h1 h2) h3
theorem below4 {w u1 u2 u3 u4 : World} (h1 : Below w.heap.size w u1) (h2 : Below u1.heap.size u1 u2) (h3 : Below u2.heap.size u2 u3) (h4 : Below u3.heap.size u3 u4) : Below w.heap.size w u4 := below2 (below3 h1 h2 h3) h4

theorem digC_eq (n : Nat) (h : n < 10) (c : UInt8) (hc : c.toNat = 48 + n) : digC n = c := UInt8.toNat_inj.1 (by rw [digC_toNat n h, hc])
theorem show_120 : showI (-120) = [45, 49, 50, 48] := by
  rw [showI_neg (by omega), show ((-120 : Int).natAbs) = 120 by rfl, showN_ge (by omega), show 120 / 10 = 12 by rfl, show 120 % 10 = 0 by rfl, showN_ge (by omega), show 12 / 10 = 1 by rfl, show 12 % 10 = 2 by rfl, showN_lt (by omega),
    digC_eq 1 (by omega) 49 rfl, digC_eq 2 (by omega) 50 rfl, digC_eq 0 (by omega) 48 rfl]
  rfl
theorem show_0 : showI 0 = [48] := by
  rw [showI_nonneg (by omega), show (0 : Int).toNat = 0 by rfl, showN_zero]

theorem ex_read1 (w : World) : Calls Try.prog 10 #[.string ⟨#[48, 48, 56, 48]⟩, .int .i64 65535] w fun e W' => e = .returned (.tuple #[.int .i64 80, .bool true]) ∧ Below w.heap.size w W' := by
  have h1 : readI (⟨#[48, 48, 56, 48]⟩ : ByteArray).data.toList 65535 = 80 := by decide +kernel
  have h2 : readB (⟨#[48, 48, 56, 48]⟩ : ByteArray).data.toList 65535 = true := by decide +kernel
  have := read_calls ⟨#[48, 48, 56, 48]⟩ (by decide +kernel) 65535 (by omega) w
  rwa [h1, h2] at this
theorem ex_read2 (w : World) : Calls Try.prog 10 #[.string ⟨#[54, 53, 53, 51, 54]⟩, .int .i64 65535] w fun e W' => e = .returned (.tuple #[.int .i64 0, .bool false]) ∧ Below w.heap.size w W' := by
  have h1 : readI (⟨#[54, 53, 53, 51, 54]⟩ : ByteArray).data.toList 65535 = 0 := by decide +kernel
  have h2 : readB (⟨#[54, 53, 53, 51, 54]⟩ : ByteArray).data.toList 65535 = false := by decide +kernel
  have := read_calls ⟨#[54, 53, 53, 51, 54]⟩ (by decide +kernel) 65535 (by omega) w
  rwa [h1, h2] at this
theorem ex_show1 (w : World) : Calls Try.prog 13 #[.int .i64 (-120)] w fun e W' => e = .returned (.string ⟨#[45, 49, 50, 48]⟩) ∧ Below w.heap.size w W' := by
  have := show_calls (-120) (by omega) (by omega) w
  rwa [show_120] at this
theorem ex_show2 (w : World) : Calls Try.prog 13 #[.int .i64 0] w fun e W' => e = .returned (.string ⟨#[48]⟩) ∧ Below w.heap.size w W' := by
  have := show_calls 0 (by omega) (by omega) w
  rwa [show_0] at this
theorem ex_plain1 (w : World) : Calls Try.prog 15 #[.string ⟨#[48, 55]⟩] w fun e W' => e = .returned (.bool true) ∧ w = W' := by
  have h : plainB (⟨#[48, 55]⟩ : ByteArray).data.toList = true := by decide +kernel
  have := plain_any ⟨#[48, 55]⟩ (by decide +kernel) w
  rwa [h] at this
theorem ex_plain2 (w : World) : Calls Try.prog 15 #[.string ⟨#[]⟩] w fun e W' => e = .returned (.bool false) ∧ w = W' := by
  have h : plainB (⟨#[]⟩ : ByteArray).data.toList = false := by decide +kernel
  have := plain_any ⟨#[]⟩ (by decide +kernel) w
  rwa [h] at this

set_option maxHeartbeats 800000 in
theorem awake_calls (w : World) :
    Calls Try.prog 9 #[] w fun e W' => e = .returned (.bool true) ∧ Below w.heap.size w W' := by
  go_enter Try.func9, Try.ntmps9
  go_wp2_with fail
  refine (ex_read1 _).mono ?_
  rintro e w1 ⟨rfl, hB1⟩
  go_wp2_with fail
  refine (ex_read2 _).mono ?_
  rintro e w2 ⟨rfl, hB2⟩
  go_wp2_with fail
  refine (ex_show1 _).mono ?_
  rintro e w3 ⟨rfl, hB3⟩
  go_wp2_with fail
  refine (ex_show2 _).mono ?_
  rintro e w4 ⟨rfl, hB4⟩
  go_wp2_with fail
  refine (ex_plain1 _).mono ?_
  rintro e w4 ⟨rfl, rfl⟩
  go_wp2_with fail
  refine (ex_plain2 _).mono ?_
  rintro e w4 ⟨rfl, rfl⟩
  have hB := Lib.hid (below4 hB1 hB2 hB3 hB4)
  go_wp2
  go_ret
  exact ⟨rfl, hB.out⟩

end Go.Proofs.Ytdmjolmclnnngaa
