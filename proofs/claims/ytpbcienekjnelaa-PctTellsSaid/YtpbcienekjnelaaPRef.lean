/-
  The document's own In, Ready, told, Decode, Encode of layer 3.
-/
import Derived.Test.YtpbcienekjnelaaPAwake
import Derived.Deep.AppendLies
import Derived.Deep.RegionLaw
namespace Go.Proofs.Ytpbcienekjnelaa.Pct
open Go.RowKit
set_option linter.unusedSimpArgs false
set_option linter.unusedVariables false

theorem contains_snoc (s : ByteArray) (k : Nat) (h : k < s.size) (x : UInt8) (hp : (s.data.toList.take k).contains x = false) (hd : ((s[k].toNat : Int) == (x.toNat : Int)) = false) : (s.data.toList.take (k + 1)).contains x = false := by
  have hne : s[k] ≠ x := by
    intro e
    rw [e] at hd
    simp at hd
  rw [Ascii.take_snoc s k h]
  simp at hp ⊢
  exact ⟨hp, fun e => hne e.symm⟩
theorem contains_at (s : ByteArray) (k : Nat) (h : k < s.size) (x : UInt8) (hd : ((s[k].toNat : Int) == (x.toNat : Int)) = true) : s.data.toList.contains x = true := by
  have he : s[k] = x := by
    apply UInt8.toNat_inj.1
    have : (s[k].toNat : Int) = (x.toNat : Int) := by simpa using hd
    omega
  have hm : s[k] ∈ s.data.toList := List.getElem_mem (l := s.data.toList) (n := k) h
  rw [← he]
  simpa using hm

set_option maxHeartbeats 1000000 in
theorem refMember_any (s : ByteArray) (hs : s.size ≤ maxLen) (x : UInt8) (b : Bool) (hb : Hid (s.data.toList.contains x = b)) (w : World) :
    Calls Try.prog 19 #[.string s, .int .u8 (x.toNat : Int)] w fun e w' => e = .returned (.bool b) ∧ w = w' := by
  unfold maxLen at hs
  go_enter Try.func19, Try.ntmps19
  go_wp2
  go_loop [5] (fun i => ∃ k : Nat, k ≤ s.size ∧ i = .int .i64 k ∧ Hid ((s.data.toList.take k).contains x = false)) (fun i => s.size - (intOf i).toNat)
  case atStart => exact ⟨0, Nat.zero_le _, rfl, Lib.hid rfl⟩
  case round =>
    obtain ⟨k, hk, rfl, hp⟩ := hrel
    by_cases hlt : k < s.size
    · cases hd : ((s[k].toNat : Int) == (x.toNat : Int))
      · have hn := Lib.hid (contains_snoc s k hlt x hp.out hd)
        go_wp2
        go_round
        case rel => exact ⟨k + 1, by omega, by go_num, hn⟩
        case measure => simp [intOf]; omega
      · have hn := Lib.hid (hb.out.symm.trans (contains_at s k hlt x hd))
        go_wp2
        go_ret
        exact ⟨by rw [hn.out]; rfl, rfl⟩
    · obtain rfl : k = s.size := by omega
      have hn := Lib.hid (show b = false by have h1 := hp.out; rw [List.take_of_length_le (by exact Nat.le_refl _)] at h1; rw [← hb.out]; exact h1)
      go_wp2
      go_ret
      exact ⟨by rw [hn.out]; rfl, rfl⟩

theorem set_cases (set : Int) : (set < 0 ∨ 4 < set) ∨ set = 0 ∨ set = 1 ∨ set = 2 ∨ set = 3 ∨ set = 4 := by omega
theorem in0_eq (x : UInt8) (h : baseB x = false) : ([] : List UInt8).contains x = inB 0 x := by show false = baseB x; rw [h]
theorem in1_eq (x : UInt8) (h : baseB x = false) : more1.contains x = inB 1 x := by show _ = (baseB x || more1.contains x); rw [h]; rfl
theorem in2_eq (x : UInt8) (h : baseB x = false) : more2.contains x = inB 2 x := by show _ = (baseB x || more2.contains x); rw [h]; rfl
theorem in3_eq (x : UInt8) (h : baseB x = false) : (more2 ++ more3).contains x = inB 3 x := by
  show _ = (baseB x || more2.contains x || more3.contains x)
  rw [h, Bool.eq_iff_iff]
  simp
theorem in4_eq (x : UInt8) (h : baseB x = false) : (more2 ++ more3 ++ more4).contains x = inB 4 x := by
  show _ = (baseB x || more2.contains x || more3.contains x || more4.contains x)
  rw [h, Bool.eq_iff_iff]
  simp
  constructor
  · rintro (h | h | h)
    · exact .inl (.inl h)
    · exact .inl (.inr h)
    · exact .inr h
  · rintro ((h | h) | h)
    · exact .inl h
    · exact .inr (.inl h)
    · exact .inr (.inr h)
theorem in_base (set : Int) (x : UInt8) (h0 : 0 ≤ set) (h4 : set ≤ 4) (h : baseB x = true) : inB set x = true := by
  have : set = 0 ∨ set = 1 ∨ set = 2 ∨ set = 3 ∨ set = 4 := by omega
  rcases this with rfl | rfl | rfl | rfl | rfl
  · exact h
  · show (baseB x || _) = true; rw [h]; rfl
  · show (baseB x || _) = true; rw [h]; rfl
  · show (baseB x || _ || _) = true; rw [h]; rfl
  · show (baseB x || _ || _ || _) = true; rw [h]; rfl
theorem in_none (set : Int) (x : UInt8) (h : set < 0 ∨ 4 < set) : inB set x = false := by
  unfold inB
  rw [if_neg (by omega), if_neg (by omega), if_neg (by omega), if_neg (by omega), if_neg (by omega)]

set_option maxHeartbeats 2000000 in
theorem refIn_any (set : Int) (x : UInt8) (w : World) :
    Calls Try.prog 11 #[.int .i64 set, .int .u8 (x.toNat : Int)] w fun e w' => e = .returned (.bool (inB set x)) ∧ w = w' := by
  by_cases h : set < 0 ∨ 4 < set
  · have hv := Lib.hid (in_none set x h)
    rcases h with h | h
    · have t1 : decide (set < 0) = true := by simpa using h
      go_enter Try.func11, Try.ntmps11
      go_wp2
      go_ret
      exact ⟨by rw [hv.out]; rfl, rfl⟩
    · have t1 : decide (set < 0) = false := by simp; omega
      have t2 : decide (4 < set) = true := by simpa using h
      go_enter Try.func11, Try.ntmps11
      go_wp2
      go_ret
      exact ⟨by rw [hv.out]; rfl, rfl⟩
  · have t1 : decide (set < 0) = false := by simp; omega
    have t2 : decide (4 < set) = false := by simp; omega
    have hb := base_int x
    cases hx : baseB x
    · rw [hx] at hb
      have t3 : decide ((x.toNat : Int) ≤ 31) = false := (Bool.or_eq_false_iff.1 hb.symm).1
      have t4 : decide (127 ≤ (x.toNat : Int)) = false := (Bool.or_eq_false_iff.1 hb.symm).2
      clear hb
      have hs : set = 0 ∨ set = 1 ∨ set = 2 ∨ set = 3 ∨ set = 4 := by omega
      have HX := Lib.hid hx
      clear hx h t1 t2
      rcases hs with rfl | rfl | rfl | rfl | rfl
      · go_enter Try.func11, Try.ntmps11
        go_wp2_with (go_at_call 19; refine (refMember_any _ (by decide +kernel) x _ (Lib.hid (in0_eq x HX.out)) _).mono ?_; rintro e w' ⟨rfl, rfl⟩)
        go_ret
        exact ⟨rfl, rfl⟩
      · go_enter Try.func11, Try.ntmps11
        go_wp2_with (go_at_call 19; refine (refMember_any _ (by decide +kernel) x _ (Lib.hid (in1_eq x HX.out)) _).mono ?_; rintro e w' ⟨rfl, rfl⟩)
        go_ret
        exact ⟨rfl, rfl⟩
      · go_enter Try.func11, Try.ntmps11
        go_wp2_with (go_at_call 19; refine (refMember_any _ (by decide +kernel) x _ (Lib.hid (in2_eq x HX.out)) _).mono ?_; rintro e w' ⟨rfl, rfl⟩)
        go_ret
        exact ⟨rfl, rfl⟩
      · go_enter Try.func11, Try.ntmps11
        go_wp2_with (go_at_call 19; refine (refMember_any _ (by decide +kernel) x _ (Lib.hid (in3_eq x HX.out)) _).mono ?_; rintro e w' ⟨rfl, rfl⟩)
        go_ret
        exact ⟨rfl, rfl⟩
      · go_enter Try.func11, Try.ntmps11
        go_wp2_with (go_at_call 19; refine (refMember_any _ (by decide +kernel) x _ (Lib.hid (in4_eq x HX.out)) _).mono ?_; rintro e w' ⟨rfl, rfl⟩)
        go_ret
        exact ⟨rfl, rfl⟩
    · rw [hx] at hb
      have hv := Lib.hid (in_base set x (by omega) (by omega) hx)
      have hw : decide ((x.toNat : Int) ≤ 31) = true ∨ (decide ((x.toNat : Int) ≤ 31) = false ∧ decide (127 ≤ (x.toNat : Int)) = true) := by
        cases e : decide ((x.toNat : Int) ≤ 31)
        · right; rw [e] at hb; exact ⟨rfl, by simpa using hb.symm⟩
        · exact .inl rfl
      clear hb hx h
      rcases hw with t3 | ⟨t3, t4⟩
      all_goals
        go_enter Try.func11, Try.ntmps11
        go_wp2
        go_ret
        exact ⟨by rw [hv.out]; rfl, rfl⟩

set_option maxHeartbeats 1000000 in
theorem refReady_any (s : ByteArray) (hs : s.size ≤ maxLen) (set : Int) (w : World) :
    Calls Try.prog 12 #[.string s, .int .i64 set] w fun e w' => e = .returned (.bool (readyB set s.data.toList)) ∧ w = w' := by
  unfold maxLen at hs
  go_enter Try.func12, Try.ntmps12
  go_wp2
  go_loop [5, 6] (fun i _ => ∃ k : Nat, k ≤ s.size ∧ i = .int .i64 k ∧ Hid (readyB set (s.data.toList.take k) = true)) (fun i _ => s.size - (intOf i).toNat)
  case atStart => exact ⟨0, Nat.zero_le _, rfl, Lib.hid rfl⟩
  case round =>
    obtain ⟨k, hk, rfl, hp⟩ := hrel
    by_cases hlt : k < s.size
    · have hcall := refIn_any set s[k] w
      cases hd : inB set s[k]
      · rw [hd] at hcall
        have hn := Lib.hid (ready_snoc set s k hlt hp.out hd)
        clear hd
        go_wp2_with (go_at_call 11; refine hcall.mono ?_; rintro e w' ⟨rfl, rfl⟩)
        go_round
        case rel => exact ⟨k + 1, by omega, by go_num, hn⟩
        case measure => simp [intOf]; omega
      · rw [hd] at hcall
        have hn := Lib.hid (ready_not set s k hlt hd)
        clear hd
        go_wp2_with (go_at_call 11; refine hcall.mono ?_; rintro e w' ⟨rfl, rfl⟩)
        go_ret
        exact ⟨by rw [hn.out]; rfl, rfl⟩
    · obtain rfl : k = s.size := by omega
      have hn := Lib.hid (ready_all set s hp.out)
      go_wp2
      go_ret
      exact ⟨by rw [hn.out]; rfl, rfl⟩

set_option maxHeartbeats 1000000 in
theorem refTold_other (s : ByteArray) (hs : s.size ≤ maxLen) (k : Nat) (hk : k < s.size) (h : ((s[k].toNat : Int) != 37) = true ∨ (((s[k].toNat : Int) != 37) = false ∧ decide ((s.size : Int) - k < 3) = true)) (w : World) :
    Calls Try.prog 23 #[.string s, .int .i64 (k : Int)] w fun e w' => e = .returned (.int .i64 (-1)) ∧ w = w' := by
  unfold maxLen at hs
  rcases h with h | ⟨h, h3⟩
  all_goals
    go_enter Try.func23, Try.ntmps23
    go_wp2
    go_ret
    exact ⟨rfl, rfl⟩

set_option maxHeartbeats 1000000 in
theorem refTold_in (s : ByteArray) (hs : s.size ≤ maxLen) (k : Nat) (hk : k + 2 < s.size) (h : ((s[k].toNat : Int) != 37) = false) (a b v : Int) (ha : Hid (Ascii.hexI (s[k + 1].toNat : Int) = a)) (hb : Hid (Ascii.hexI (s[k + 2].toNat : Int) = b)) (a1 : -1 ≤ a) (b1 : -1 ≤ b) (a15 : a ≤ 15) (b15 : b ≤ 15)
    (hab : (decide (a < 0) = true ∧ v = -1) ∨ (decide (a < 0) = false ∧ decide (b < 0) = true ∧ v = -1) ∨ (decide (a < 0) = false ∧ decide (b < 0) = false ∧ v = 16 * a + b)) (w : World) :
    Calls Try.prog 23 #[.string s, .int .i64 (k : Int)] w fun e w' => e = .returned (.int .i64 v) ∧ w = w' := by
  unfold maxLen at hs
  have h3 : decide ((s.size : Int) - k < 3) = false := by simp; omega
  have l1 := s[k + 1].toNat_lt
  have l2 := s[k + 2].toNat_lt
  have c1 : ∀ w, Calls Try.prog 27 #[.int .u8 (s[k + 1].toNat : Int)] w fun e w' => e = .returned (.int .i64 a) ∧ w = w' := fun w => by rw [← ha.out]; exact Ascii.refHex_any _ (by omega) (by omega) w
  have c2 : ∀ w, Calls Try.prog 27 #[.int .u8 (s[k + 2].toNat : Int)] w fun e w' => e = .returned (.int .i64 b) ∧ w = w' := fun w => by rw [← hb.out]; exact Ascii.refHex_any _ (by omega) (by omega) w
  rcases hab with ⟨t1, rfl⟩ | ⟨t1, t2, rfl⟩ | ⟨t1, t2, rfl⟩
  all_goals
    go_enter Try.func23, Try.ntmps23
    go_wp2_with fail
    refine (c1 _).mono ?_
    rintro e w' ⟨rfl, rfl⟩
    go_wp2_with fail
    refine (c2 _).mono ?_
    rintro e w' ⟨rfl, rfl⟩
    go_wp2
    go_ret
    exact ⟨rfl, rfl⟩

end Go.Proofs.Ytpbcienekjnelaa.Pct
