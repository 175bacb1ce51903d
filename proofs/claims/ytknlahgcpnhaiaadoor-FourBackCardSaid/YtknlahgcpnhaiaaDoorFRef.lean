/-
  The document's Show, byteAt, Parse and Looks.
-/
import Derived.Test.YtknlahgcpnhaiaaDoorFShow
namespace Go.Proofs.YtknlahgcpnhaiaaDoor.Four
open Go.RowKit
set_option linter.unusedSimpArgs false
set_option linter.unusedVariables false

theorem text_of (s : ByteArray) : (⟨s.data.toList.toArray⟩ : ByteArray) = s := by cases s; rfl
theorem text_eq {s t : ByteArray} (h : s.data.toList = t.data.toList) : s = t := by rw [← text_of s, ← text_of t, h]
theorem refDeci_at (z : Int) (n : Nat) (hz : z = (n : Int)) (hn : n ≤ 9223372036854775807) (x : ByteArray) (hx : (⟨(Deci.showN n).toArray⟩ : ByteArray) = x) (w : World) :
    Calls Tryd.prog 27 #[.int .i64 z] w fun e W' => e = .returned (.string x) ∧ Below w.heap.size w W' := by
  subst hx; subst hz
  have := Deci.refShow_calls (n : Int) (by omega) (by omega) w
  rw [Deci.showI_nonneg (by omega), show ((n : Int)).toNat = n by omega] at this
  exact this
theorem txt_size (k : Nat) (x : ByteArray) (h : k < 1000) (hx : (⟨(Deci.showN k).toArray⟩ : ByteArray) = x) : x.size ≤ 3 := by
  subst hx
  exact Deci.showN_len_pow 2 k h
theorem text4 (a b c d : List UInt8) : (((((((⟨a.toArray⟩ : ByteArray) ++ ⟨#[46]⟩) ++ ⟨b.toArray⟩) ++ ⟨#[46]⟩) ++ ⟨c.toArray⟩) ++ ⟨#[46]⟩) ++ ⟨d.toArray⟩ : ByteArray) = ⟨(join4 a b c d).toArray⟩ := by
  apply text_eq
  simp [Deci.text_append, join4]

set_option maxRecDepth 100000 in
set_option maxHeartbeats 2000000 in
theorem refShowIn (n : Nat) (hn : n ≤ 4294967295) (w : World) :
    Calls Tryd.prog 14 #[.int .i64 n] w fun e W' => e = .returned (.string ⟨(show4 n).toArray⟩) ∧ Below w.heap.size w W' := by
  have b0 : decide ((n : Int) < 0) = false := decide_eq_false (by omega)
  have b1 : decide ((4294967295 : Int) < n) = false := decide_eq_false (by omega)
  obtain ⟨t0, h0⟩ : ∃ x : ByteArray, (⟨(Deci.showN (n / 16777216)).toArray⟩ : ByteArray) = x := ⟨_, rfl⟩
  obtain ⟨t1, h1⟩ : ∃ x : ByteArray, (⟨(Deci.showN (n / 65536 % 256)).toArray⟩ : ByteArray) = x := ⟨_, rfl⟩
  obtain ⟨t2, h2⟩ : ∃ x : ByteArray, (⟨(Deci.showN (n / 256 % 256)).toArray⟩ : ByteArray) = x := ⟨_, rfl⟩
  obtain ⟨t3, h3⟩ : ∃ x : ByteArray, (⟨(Deci.showN (n % 256)).toArray⟩ : ByteArray) = x := ⟨_, rfl⟩
  have s0 := txt_size _ _ (by omega) h0
  have s1 := txt_size _ _ (by omega) h1
  have s2 := txt_size _ _ (by omega) h2
  have s3 := txt_size _ _ (by omega) h3
  have HE := Lib.hid (show (⟨(show4 n).toArray⟩ : ByteArray) = (((((t0 ++ ⟨#[46]⟩) ++ t1) ++ ⟨#[46]⟩) ++ t2) ++ ⟨#[46]⟩) ++ t3 by rw [← h0, ← h1, ← h2, ← h3, text4]; rfl)
  have H0 := Lib.hid h0
  have H1 := Lib.hid h1
  have H2 := Lib.hid h2
  have H3 := Lib.hid h3
  have HN := Lib.hid hn
  clear h0 h1 h2 h3
  go_enter Tryd.func14, Tryd.ntmps14
  go_wp2_with fail
  refine (refDeci_at _ (n / 16777216) (by omega) (by have := HN.out; omega) t0 H0.out _).mono ?_
  rintro e w1 ⟨rfl, hB1⟩
  go_wp2_with fail
  refine (refDeci_at _ (n / 65536 % 256) (by omega) (by have := HN.out; omega) t1 H1.out _).mono ?_
  rintro e w2 ⟨rfl, hB2⟩
  go_wp2_with fail
  refine (refDeci_at _ (n / 256 % 256) (by omega) (by have := HN.out; omega) t2 H2.out _).mono ?_
  rintro e w3 ⟨rfl, hB3⟩
  go_wp2_with fail
  refine (refDeci_at _ (n % 256) (by omega) (by have := HN.out; omega) t3 H3.out _).mono ?_
  rintro e w4 ⟨rfl, hB4⟩
  have hB := Lib.hid (Deci.below4 hB1 hB2 hB3 hB4)
  clear hB1 hB2 hB3 hB4
  go_wp2
  go_ret
  refine ⟨?_, hB.out⟩
  rw [HE.out]
  rfl
set_option maxHeartbeats 400000 in
theorem refShowOut (n : Int) (h : fitsB n = false) (w : World) :
    Calls Tryd.prog 14 #[.int .i64 n] w fun e W' => e = .returned (.string ⟨#[]⟩) ∧ Below w.heap.size w W' := by
  have hb : decide (n < 0) = true ∨ (decide (n < 0) = false ∧ decide ((4294967295 : Int) < n) = true) := by
    have := fitsB_false h
    simp
    omega
  clear h
  rcases hb with b0 | ⟨b0, b1⟩
  all_goals
    go_enter Tryd.func14, Tryd.ntmps14
    go_wp2
    go_ret
    exact ⟨rfl, Below.refl _ _⟩
/-- The document's Show, of any number. -/
theorem refShowF_at (n : Int) (x : ByteArray) (hx : (⟨(showF n).toArray⟩ : ByteArray) = x) (w : World) :
    Calls Tryd.prog 14 #[.int .i64 n] w fun e W' => e = .returned (.string x) ∧ Below w.heap.size w W' := by
  subst hx
  unfold showF
  cases h : fitsB n
  · exact refShowOut n h w
  · obtain ⟨h0, h1⟩ := fitsB_true h
    obtain ⟨k, rfl⟩ : ∃ k : Nat, n = (k : Int) := ⟨n.toNat, by omega⟩
    exact refShowIn k (by omega) w

/-! ### Looks -/
theorem take_snoc (s : ByteArray) (k : Nat) (h : k < s.size) : s.data.toList.take (k + 1) = s.data.toList.take k ++ [s[k]] := by
  rw [List.take_succ_eq_append_getElem (l := s.data.toList) (i := k) h]; rfl
theorem extract_end (s : ByteArray) (k : Nat) : (s.extract k s.size).data.toList = s.data.toList.drop k := Lib.extract_to_end s k
theorem aft_snoc_dot (l : List UInt8) : aft (l ++ [46]) = [] := aft_dot l [] (by simp)
theorem aft_snoc (l : List UInt8) (c : UInt8) (h : c ≠ 46) : aft (l ++ [c]) = aft l ++ [c] := by
  by_cases hd : (46 : UInt8) ∈ l
  · obtain ⟨a, b, rfl, hb⟩ : ∃ a b, l = a ++ 46 :: b ∧ (46 : UInt8) ∉ b := by
      rcases last_dot l with ⟨_, hn⟩ | ⟨k, _, hk, e, hn⟩
      · exact absurd hd hn
      · obtain ⟨hk', e'⟩ := List.getElem?_eq_some_iff.1 e
        exact ⟨l.take k, l.drop (k + 1), by conv => lhs; rw [← List.take_append_drop k l, List.drop_eq_getElem_cons hk', e'], hn⟩
    rw [aft_dot _ _ hb, List.append_assoc, List.cons_append, aft_dot]
    simp [hb, Ne.symm h]
  · rw [aft_none _ hd, aft_none]
    simp [hd, Ne.symm h]
theorem refPlain_at (s : ByteArray) (hs : s.size ≤ 1000000) (b : Bool) (hb : Deci.plainB s.data.toList = b) (w : World) :
    Calls Tryd.prog 23 #[.string s] w fun e w' => e = .returned (.bool b) ∧ w = w' := by
  subst hb
  exact Deci.refPlain_any s (by unfold maxLen; omega) w

set_option maxRecDepth 100000 in
set_option maxHeartbeats 1000000 in
theorem refLooks_at (s : ByteArray) (hs : s.size ≤ 1000000) (b : Bool) (hb : lookB s.data.toList = b) (w : World) :
    Calls Tryd.prog 11 #[.string s] w fun e w' => e = .returned (.bool b) ∧ w = w' := by
  have HB := Lib.hid hb
  clear hb
  have hsz : s.data.toList.length = s.size := rfl
  have HSZ := Lib.hid hsz
  clear hsz
  go_enter Tryd.func11, Tryd.ntmps11
  go_wp2
  go_loop [3, 4] (fun t i => ∃ (k j : Nat), k ≤ s.size ∧ i = .int .i64 k ∧ t = .string (s.extract j s.size) ∧ j ≤ k ∧ Hid (aft (s.data.toList.take k) = (s.data.toList.take k).drop j)) (fun _ i => s.size - (intOf i).toNat)
  case atStart => exact ⟨0, 0, Nat.zero_le _, rfl, by rw [ByteArray.extract_zero_size], Nat.le_refl _, Lib.hid rfl⟩
  case round =>
    obtain ⟨k, j, hk, rfl, rfl, hj, HA⟩ := hrel
    by_cases hlt : k < s.size
    · have t1 : (k : Int) < s.size := by omega
      have htk := Lib.hid (take_snoc s k hlt)
      have hlen := Lib.hid (show (s.data.toList.take k).length = k by rw [List.length_take, HSZ.out]; omega)
      by_cases hd : s[k] = 46
      · have b : ((s[k].toNat : Int) == 46) = true := by rw [hd]; rfl
        have HD := Lib.hid hd
        clear hd
        go_wp2
        go_round
        case rel => exact ⟨k + 1, k + 1, by omega, by go_num, rfl, Nat.le_refl _, Lib.hid (by rw [htk.out, HD.out, aft_snoc_dot, List.drop_eq_nil_of_le (by rw [List.length_append, hlen.out]; simp)])⟩
        case measure => simp [intOf]; omega
      · have b : ((s[k].toNat : Int) == 46) = false := beq_false_of_ne (fun e => hd (UInt8.toNat_inj.1 (by have : (46 : UInt8).toNat = 46 := rfl; omega)))
        have HD := Lib.hid hd
        clear hd
        go_wp2
        go_round
        case rel => exact ⟨k + 1, j, by omega, by go_num, rfl, by omega, Lib.hid (by rw [htk.out, aft_snoc _ _ HD.out, HA.out, List.drop_append_of_le_length (by rw [hlen.out]; exact hj)])⟩
        case measure => simp [intOf]; omega
    · obtain rfl : k = s.size := by omega
      have hp := refPlain_at (s.extract j s.size) (by simp; omega) b (by
        have h := HA.out
        rw [List.take_of_length_le (by rw [HSZ.out]; exact Nat.le_refl _)] at h
        rw [extract_end, ← h]
        exact HB.out) w
      go_wp2_with (go_at_call 23; refine hp.mono ?_; rintro e w' ⟨rfl, rfl⟩)
      go_ret
      exact ⟨rfl, rfl⟩
end Go.Proofs.YtknlahgcpnhaiaaDoor.Four
