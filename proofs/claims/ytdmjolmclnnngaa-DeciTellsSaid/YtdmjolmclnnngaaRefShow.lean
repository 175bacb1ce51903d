/-
  The document's Show(n).
-/
import Derived.Test.YtdmjolmclnnngaaAwake
namespace Go.Proofs.Ytdmjolmclnnngaa
open Go.RowKit
set_option linter.unusedSimpArgs false
set_option linter.unusedVariables false

theorem text_append (s t : ByteArray) : (s ++ t).data.toList = s.data.toList ++ t.data.toList := by
  rw [ByteArray.data_append, Array.toList_append]
theorem empty_pos (s : ByteArray) (h : 0 < s.size) : s.toList.isEmpty = false := by
  rw [isEmpty_iff]
  exact decide_eq_false (by omega)

/-- A slice of one byte as a text. -/
theorem one_conv (w : World) (x : UInt8) (v : Int) (hv : (x.toNat : Int) = v) : (convert 35 9 (.slice (some ⟨w.heap.size, 0, none⟩) 1 1)).run Try.prog (w.alloc (.cells #[.int .u8 v] 5)) = .ok (.string ⟨#[x]⟩) (w.alloc (.cells #[.int .u8 v] 5)) := by
  subst hv
  refine run_convert_bytes_back (w.alloc (.cells #[.int .u8 (x.toNat : Int)] 5)) 35 9 5 ⟨w.heap.size, 0, none⟩ 1 [x] Try.underlying35 Try.underlying5 Try.underlying9 ?_
  intro j hj
  obtain rfl : j = 0 := by simp at hj; omega
  simp [Addr.add, World.cell?_alloc_new]

/-- What is told already, and what is left. -/
def Told (N q : Nat) (c : List UInt8) : Prop := (q = N ∧ c = []) ∨ (c ≠ [] ∧ showN N = (if q = 0 then [] else showN q) ++ c)
theorem told_start (N : Nat) : Told N N [] := .inl ⟨rfl, rfl⟩
theorem told_end {N : Nat} {c : List UInt8} (h : Told N 0 c) (hc : c ≠ []) : showN N = c := by
  rcases h with ⟨_, h⟩ | ⟨_, h⟩
  · exact absurd h hc
  · simpa using h
theorem told_more {N q : Nat} {c : List UInt8} (h : Told N q c) (hq : q ≠ 0 ∨ c = []) (x : UInt8) (hx : x = digC (q % 10)) (q' : Nat) (hq' : q' = q / 10) : Told N q' (x :: c) := by
  subst hx; subst hq'
  refine .inr ⟨by simp, ?_⟩
  have key : showN N = showN q ++ c := by
    rcases h with ⟨rfl, rfl⟩ | ⟨hc, h⟩
    · simp
    · rcases hq with hq | hq
      · rwa [if_neg hq] at h
      · exact absurd hq hc
  rw [key]
  by_cases h10 : q < 10
  · rw [if_pos (by omega), showN_lt h10, show q % 10 = q by omega]; rfl
  · rw [if_neg (by omega), showN_ge h10, List.append_assoc]; rfl
theorem told_short {N q : Nat} {c : List UInt8} (hN : N ≤ 9223372036854775808) (h : Told N q c) : c.length ≤ 19 := by
  rcases h with ⟨_, rfl⟩ | ⟨_, h⟩
  · simp
  · have := showN_len N hN
    rw [h, List.length_append] at this
    omega
theorem told_le {N q : Nat} (h : q ≤ N) (q' : Nat) (hq' : q' = q / 10) : q' ≤ N := by omega

theorem text_one (x : UInt8) (c : ByteArray) : ((⟨#[x]⟩ : ByteArray) ++ c).data.toList = x :: c.data.toList := by
  rw [text_append]; rfl
theorem text_nil (c : ByteArray) : c.data.toList = [] ↔ c.size = 0 := by
  have : c.data.toList.length = c.size := rfl
  rw [← this, List.length_eq_zero_iff]

def leftOf (v m : Value) : Nat := 2 * (intOf m).natAbs + (match v with | .string c => if c.size = 0 then 1 else 0 | _ => 0)
theorem left_less {q q' : Nat} {c : ByteArray} {x : UInt8} {m m' : Int} (hm : m.natAbs = q) (hm' : m'.natAbs = q') (hq : q' = q / 10) (h : q ≠ 0 ∨ c.size = 0) : leftOf (.string (⟨#[x]⟩ ++ c)) (.int .i64 m') < leftOf (.string c) (.int .i64 m) := by
  have hz : ((⟨#[x]⟩ : ByteArray) ++ c).size ≠ 0 := by rw [ByteArray.size_append]; show 1 + c.size ≠ 0; omega
  simp only [leftOf, intOf, hm, hm', if_neg hz]
  rcases h with h | h
  · omega
  · rw [if_pos h]; omega
theorem size_one (x : UInt8) (c : ByteArray) (n : Nat) (h : (x :: c.data.toList).length ≤ n) : ((⟨#[x]⟩ : ByteArray) ++ c).size ≤ n := by
  rw [← text_one] at h; exact h

set_option maxRecDepth 100000 in
set_option maxHeartbeats 4000000 in
theorem refShow_pos (N : Nat) (hN : N ≤ 9223372036854775807) (w : World) :
    Calls Try.prog 14 #[.int .i64 (N : Int)] w fun e W' => e = .returned (.string ⟨(showN N).toArray⟩) ∧ Below w.heap.size w W' := by
  have c0 : decide ((N : Int) < 0) = false := by simp
  go_enter Try.func14, Try.ntmps14
  go_wp2
  go_loopw [3, 4] (fun v m wr => ∃ (c : ByteArray) (q : Nat), v = .string c ∧ m = .int .i64 (q : Int) ∧ q ≤ N ∧ c.size ≤ 19 ∧ Hid (Told N q c.data.toList) ∧ Below w.heap.size w wr) (fun v m _ => leftOf v m)
  case atStart => exact ⟨⟨#[]⟩, N, rfl, rfl, Nat.le_refl _, by decide, Lib.hid (told_start N), Below.refl _ _⟩
  case round =>
    obtain ⟨c, q, rfl, rfl, hq, hcs, hT, hw⟩ := hrel
    obtain ⟨q', hq'⟩ : ∃ q', q' = q / 10 := ⟨_, rfl⟩
    obtain ⟨x, hx⟩ : ∃ x, x = digC (q % 10) := ⟨_, rfl⟩
    have hxv : (x.toNat : Int) = 48 + (q : Int) % 10 := by rw [hx, digC_toNat _ (by omega)]; omega
    have hd0 : decide ((q : Int) % 10 < 0) = false := by simp; omega
    have hqi := Lib.hid (show (q : Int) / 10 = (q' : Int) by omega)
    have hk := one_conv wr x _ hxv
    clear hxv
    have hle := Lib.hid (told_le hq q' hq')
    have HQ := Lib.hid hq'
    have HX := Lib.hid hx
    clear hq' hx
    by_cases h0 : q = 0
    · by_cases h1 : c.size = 0
      · have t0 : ((q : Int) != 0) = false := by simp; omega
        have t1 : c.toList.isEmpty = true := by rw [isEmpty_iff]; simpa using h1
        have hnext := Lib.hid (told_more hT.out (.inr ((text_nil c).2 h1)) x HX.out q' HQ.out)
        have hz := Lib.hid h1
        have hsh := Lib.hid (told_short (by omega) hnext.out)
        clear h1 h0
        go_wp2
        go_roundw
        case rel => exact ⟨_, q', rfl, by rw [hqi.out], hle.out, size_one _ _ _ hsh.out, Lib.hid (by rw [text_one]; exact hnext.out), hw.alloc hw.size _⟩
        case measure => exact left_less (by omega) (by rw [hqi.out]; omega) HQ.out (.inr hz.out)
      · subst h0
        have t1 : c.toList.isEmpty = false := by rw [isEmpty_iff]; simpa using h1
        have hend := Lib.hid (told_end hT.out (fun h => h1 ((text_nil c).1 h)))
        clear h1
        go_wp2
        go_ret
        exact ⟨by rw [hend.out]; rfl, hw⟩
    · have t0 : ((q : Int) != 0) = true := by simp; omega
      have hnext := Lib.hid (told_more hT.out (.inl h0) x HX.out q' HQ.out)
      have hsh := Lib.hid (told_short (by omega) hnext.out)
      go_wp2
      go_roundw
      case rel => exact ⟨_, q', rfl, by rw [hqi.out], hle.out, size_one _ _ _ hsh.out, Lib.hid (by rw [text_one]; exact hnext.out), hw.alloc hw.size _⟩
      case measure => exact left_less (by omega) (by rw [hqi.out]; omega) HQ.out (.inl h0)

theorem one_text (x : UInt8) (c : ByteArray) : (⟨(x :: c.data.toList).toArray⟩ : ByteArray) = ⟨#[x]⟩ ++ c := by
  rw [← text_one]
theorem neg_tmod' (q r : Nat) (hr : r = q % 10) : (-(q : Int)).tmod 10 = -(r : Int) := by
  have := neg_tmod q
  subst hr
  omega

set_option maxRecDepth 100000 in
set_option maxHeartbeats 4000000 in
theorem refShow_neg (N : Nat) (hN0 : 0 < N) (hN : N ≤ 9223372036854775808) (w : World) :
    Calls Try.prog 14 #[.int .i64 (-(N : Int))] w fun e W' => e = .returned (.string ⟨(45 :: showN N).toArray⟩) ∧ Below w.heap.size w W' := by
  have c0 : decide (-(N : Int) < 0) = true := by simp; omega
  go_enter Try.func14, Try.ntmps14
  go_wp2
  go_loopw [3, 4] (fun v m wr => ∃ (c : ByteArray) (q : Nat), v = .string c ∧ m = .int .i64 (-(q : Int)) ∧ q ≤ N ∧ c.size ≤ 19 ∧ Hid (Told N q c.data.toList) ∧ Below w.heap.size w wr) (fun v m _ => leftOf v m)
  case atStart => exact ⟨⟨#[]⟩, N, rfl, rfl, Nat.le_refl _, by decide, Lib.hid (told_start N), Below.refl _ _⟩
  case round =>
    obtain ⟨c, q, rfl, rfl, hq, hcs, hT, hw⟩ := hrel
    obtain ⟨q', hq'⟩ : ∃ q', q' = q / 10 := ⟨_, rfl⟩
    obtain ⟨r, hr⟩ : ∃ r, r = q % 10 := ⟨_, rfl⟩
    obtain ⟨x, hx⟩ : ∃ x, x = digC r := ⟨_, rfl⟩
    have hxv : (x.toNat : Int) = 48 + (r : Int) := by rw [hx, digC_toNat _ (by omega)]; omega
    have e1 := neg_tmod' q r hr
    have e2 := neg_tdiv q
    rw [← hq'] at e2
    have hk := one_conv wr x _ hxv
    have hr9 : r ≤ 9 := by omega
    have hq9 : q' ≤ 9223372036854775808 := by omega
    have HXV := Lib.hid hxv
    have hle := Lib.hid (told_le hq q' hq')
    have HQ := Lib.hid hq'
    have HX := Lib.hid (show x = digC (q % 10) by rw [hx, hr])
    clear hxv hq' hx
    by_cases h0 : q = 0
    · have h1 : c.size ≠ 0 := by
        intro h
        rcases hT.out with ⟨h, _⟩ | ⟨h', _⟩
        · omega
        · exact h' ((text_nil c).2 h)
      subst h0
      have t1 : c.toList.isEmpty = false := by rw [isEmpty_iff]; simpa using h1
      have hend := Lib.hid (told_end hT.out (fun h => h1 ((text_nil c).1 h)))
      clear h1 e1 e2 hr
      go_wp2
      go_ret
      exact ⟨by rw [hend.out, one_text]; rfl, hw⟩
    · have t0 : (-(q : Int) != 0) = true := by simp; omega
      have hnext := Lib.hid (told_more hT.out (.inl h0) x HX.out q' HQ.out)
      have hsh := Lib.hid (told_short (by omega) hnext.out)
      clear hr
      by_cases hr0 : r = 0
      · subst hr0
        clear hk
        have hk := one_conv wr x 48 (by have := HXV.out; omega)
        go_wp2
        go_roundw
        case rel => exact ⟨_, q', rfl, rfl, hle.out, size_one _ _ _ hsh.out, Lib.hid (by rw [text_one]; exact hnext.out), hw.alloc hw.size _⟩
        case measure => exact left_less (by omega) (by omega) HQ.out (.inl h0)
      · have d0 : decide (-(r : Int) < 0) = true := by simp; omega
        go_wp2
        go_roundw
        case rel => exact ⟨_, q', rfl, rfl, hle.out, size_one _ _ _ hsh.out, Lib.hid (by rw [text_one]; exact hnext.out), hw.alloc hw.size _⟩
        case measure => exact left_less (by omega) (by omega) HQ.out (.inl h0)

theorem refShow_calls (n : Int) (h0 : -9223372036854775808 ≤ n) (h1 : n ≤ 9223372036854775807) (w : World) :
    Calls Try.prog 14 #[.int .i64 n] w fun e W' => e = .returned (.string ⟨(showI n).toArray⟩) ∧ Below w.heap.size w W' := by
  by_cases h : n < 0
  · have := refShow_neg n.natAbs (by omega) (by omega) w
    rw [show -((n.natAbs : Nat) : Int) = n by omega] at this
    rw [showI_neg h]
    exact this
  · have := refShow_pos n.toNat (by omega) w
    rw [show ((n.toNat : Nat) : Int) = n by omega] at this
    rw [showI_nonneg (by omega)]
    exact this

end Go.Proofs.Ytdmjolmclnnngaa
