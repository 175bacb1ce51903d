/-
  url's small functions: Scheme, Web, Tail, the parts of an authority, a port.
-/
import Derived.Test.YtfdhhjigpboieaaGreatDoorUFacts
import Derived.WalkLawsBesides
namespace Go.Proofs.YtfdhhjigpboieaaGreatDoor.Url
open Go.RowKit Go.Shelf
set_option linter.unusedSimpArgs false
set_option linter.unusedVariables false

def tb (l : T) : ByteArray := ⟨l.toArray⟩
theorem tb_list (l : T) : (tb l).data.toList = l := rfl
theorem tb_size (l : T) : (tb l).size = l.length := rfl
theorem tb_of (s : ByteArray) : tb s.data.toList = s := by cases s; simp [tb]
theorem size_list (s : ByteArray) : s.data.toList.length = s.size := rfl
theorem below_drew {B : Nat} {a w : World} (h : Below B a w) (n : Nat) : Below B a (w.drewN n) := ⟨h.os, h.tape, h.output, h.size, h.block⟩
theorem cut_any (c : UInt8) (s : ByteArray) (hs : s.size ≤ 1000000) (x y : ByteArray) (b : Bool) (hx : tb (bef c s.data.toList) = x) (hy : tb (aft c s.data.toList) = y) (hb : s.data.toList.contains c = b) (m : Int) (w : World) (hm : Six.At m w) :
    Calls Tryz.prog 42 #[.string s, .string ⟨#[c]⟩] w fun e w' => e = .returned (.tuple #[.string x, .string y, .bool b]) ∧ Below w.heap.size w w' := by
  subst hx; subst hy; subst hb
  refine (Tryz.strings_Cut s ⟨#[c]⟩ m w (by omega) hm.max).mono fun e w' h => ?_
  obtain ⟨h1, n, rfl⟩ := h
  rw [show (⟨#[c]⟩ : ByteArray).data.toList = [c] from rfl, cut_is] at h1
  exact ⟨h1, below_drew (Below.refl _ _) n⟩

/-! ### schemes -/
theorem web_any (s : ByteArray) (z : Int) (hz : webI s.data.toList = z) (w : World) : Calls Tryz.prog 23 #[.string s] w fun e w' => e = .returned (.int .i64 z) ∧ w = w' := by
  subst hz
  unfold webI
  by_cases h1 : s.data.toList = http
  · have q1 : (s.toList == [104, 116, 116, 112]) = true := by rw [Path.tl, h1]; rfl
    rw [if_pos h1]
    clear h1
    go_enter Tryz.func23, Tryz.ntmps23
    go_wp2
    go_ret
    exact ⟨rfl, rfl⟩
  · have q1 : (s.toList == [104, 116, 116, 112]) = false := by rw [Path.tl]; exact beq_eq_false_iff_ne.2 h1
    rw [if_neg h1]
    clear h1
    by_cases h2 : s.data.toList = https
    · have q2 : (s.toList == [104, 116, 116, 112, 115]) = true := by rw [Path.tl, h2]; rfl
      rw [if_pos h2]
      clear h2
      go_enter Tryz.func23, Tryz.ntmps23
      go_wp2
      go_ret
      exact ⟨rfl, rfl⟩
    · have q2 : (s.toList == [104, 116, 116, 112, 115]) = false := by rw [Path.tl]; exact beq_eq_false_iff_ne.2 h2
      rw [if_neg h2]
      clear h2
      go_enter Tryz.func23, Tryz.ntmps23
      go_wp2
      go_ret
      exact ⟨rfl, rfl⟩
theorem isWeb_any (s : ByteArray) (b : Bool) (hb : (!decide (webI s.data.toList = 0)) = b) (w : World) : Calls Tryz.prog 54 #[.string s] w fun e w' => e = .returned (.bool b) ∧ w = w' := by
  subst hb
  obtain ⟨z, hz⟩ : ∃ z, webI s.data.toList = z := ⟨_, rfl⟩
  rw [hz]
  go_enter Tryz.func54, Tryz.ntmps54
  go_wp2_with fail
  refine (web_any s z hz _).mono ?_
  rintro e w' ⟨rfl, rfl⟩
  go_wp2
  go_ret
  exact ⟨by by_cases h : z = 0 <;> simp [h], rfl⟩
theorem opq_any (s : ByteArray) (b : Bool) (hb : opB s.data.toList = b) (w : World) : Calls Tryz.prog 56 #[.string s] w fun e w' => e = .returned (.bool b) ∧ w = w' := by
  subst hb
  unfold opB about data blob
  rw [← Path.tl]
  cases q1 : (s.toList == [97, 98, 111, 117, 116])
  · cases q2 : (s.toList == [100, 97, 116, 97])
    · cases q3 : (s.toList == [98, 108, 111, 98])
      · go_enter Tryz.func56, Tryz.ntmps56
        go_wp2
        go_ret
        exact ⟨rfl, rfl⟩
      · go_enter Tryz.func56, Tryz.ntmps56
        go_wp2
        go_ret
        exact ⟨rfl, rfl⟩
    · go_enter Tryz.func56, Tryz.ntmps56
      go_wp2
      go_ret
      exact ⟨rfl, rfl⟩
  · go_enter Tryz.func56, Tryz.ntmps56
    go_wp2
    go_ret
    exact ⟨rfl, rfl⟩
/-- What need ends a call with. -/
def gone : Ending := .panicked [{ v := .iface 51 (.agg #[]), recovered := false }]
theorem need_yes (w : World) : Calls Tryz.prog 67 #[.bool true] w fun e w' => e = .returned (.tuple #[]) ∧ w = w' := by
  go_enter Tryz.func67, Tryz.ntmps67
  go_wp2
  go_end0
  exact ⟨rfl, rfl⟩
theorem need_no (w : World) : Calls Tryz.prog 67 #[.bool false] w fun e w' => e = gone ∧ w = w' := by
  go_enter Tryz.func67, Tryz.ntmps67
  go_wp2
  exact ⟨rfl, rfl, rfl⟩

theorem byte6 (c : UInt8) : (nameB c = true ∧ ((Ascii.alphaB (c.toNat : Int) = true) ∨ (Ascii.alphaB (c.toNat : Int) = false ∧ Ascii.digitB (c.toNat : Int) = true) ∨ (Ascii.alphaB (c.toNat : Int) = false ∧ Ascii.digitB (c.toNat : Int) = false ∧ ((c.toNat : Int) != 43) = false) ∨
    (Ascii.alphaB (c.toNat : Int) = false ∧ Ascii.digitB (c.toNat : Int) = false ∧ ((c.toNat : Int) != 43) = true ∧ ((c.toNat : Int) != 45) = false) ∨
    (Ascii.alphaB (c.toNat : Int) = false ∧ Ascii.digitB (c.toNat : Int) = false ∧ ((c.toNat : Int) != 43) = true ∧ ((c.toNat : Int) != 45) = true ∧ ((c.toNat : Int) != 46) = false))) ∨
    (nameB c = false ∧ Ascii.alphaB (c.toNat : Int) = false ∧ Ascii.digitB (c.toNat : Int) = false ∧ ((c.toNat : Int) != 43) = true ∧ ((c.toNat : Int) != 45) = true ∧ ((c.toNat : Int) != 46) = true) := by
  unfold nameB
  have hd : ∀ z k : Int, decide (z = k) = !(z != k) := by intro z k; by_cases h : z = k <;> simp [h]
  rw [hd _ 43, hd _ 45, hd _ 46]
  cases Ascii.alphaB (c.toNat : Int) <;> cases Ascii.digitB (c.toNat : Int) <;> cases ((c.toNat : Int) != 43) <;> cases ((c.toNat : Int) != 45) <;> cases ((c.toNat : Int) != 46) <;> simp
set_option maxRecDepth 100000 in
set_option maxHeartbeats 2000000 in
theorem named_any (s : ByteArray) (hs : s.size ≤ 1000000) (b : Bool) (hb : named s.data.toList = b) (w : World) : Calls Tryz.prog 43 #[.string s] w fun e w' => e = .returned (.bool b) ∧ w = w' := by
  have HB := Lib.hid hb
  have HSZ := Lib.hid (show s.data.toList.length = s.size from rfl)
  clear hb
  go_enter Tryz.func43, Tryz.ntmps43
  go_wp2
  go_loop [7] (fun i => ∃ k : Nat, k ≤ s.size ∧ i = .int .i64 k ∧ Hid ((s.data.toList.take k).all nameB = true)) (fun i => s.size - (intOf i).toNat)
  case atStart => exact ⟨0, Nat.zero_le _, rfl, Lib.hid rfl⟩
  case round =>
    obtain ⟨k, hk, rfl, HA⟩ := hrel
    by_cases hlt : k < s.size
    · have t1 : (k : Int) < s.size := by omega
      have hts : s.data.toList.take (k + 1) = s.data.toList.take k ++ [s[k]] := Ascii.take_snoc s k hlt
      have hmem : s[k] ∈ s.data.toList := by
        have : s.data.toList[k]'hlt = s[k] := rfl
        rw [← this]; exact List.getElem_mem _
      rcases byte6 s[k] with ⟨hn, hh⟩ | ⟨hn, h1, h2, h3, h4, h5⟩
      · have HN := Lib.hid (show (s.data.toList.take (k + 1)).all nameB = true by rw [hts, List.all_append, HA.out]; simp [hn])
        clear hts hmem hn HA
        rcases hh with h1 | ⟨h1, h2⟩ | ⟨h1, h2, h3⟩ | ⟨h1, h2, h3, h4⟩ | ⟨h1, h2, h3, h4, h5⟩
        all_goals
          go_wp2_with (first | (go_at_call 79; refine (Ascii.alpha_any _ _).mono ?_; rintro e w' ⟨rfl, rfl⟩) | (go_at_call 80; refine (Ascii.digit_any _ _).mono ?_; rintro e w' ⟨rfl, rfl⟩))
          go_round
          case rel => exact ⟨k + 1, by omega, by go_num, HN⟩
          case measure => simp [intOf]; omega
      · have HF := Lib.hid (show b = false by
          rw [← HB.out]
          unfold named
          have : s.data.toList.all nameB = false := by
            cases e : s.data.toList.all nameB
            · rfl
            · rw [List.all_eq_true.1 e _ hmem] at hn; cases hn
          rw [this]; rfl)
        clear hts hmem hn HA
        go_wp2_with (first | (go_at_call 79; refine (Ascii.alpha_any _ _).mono ?_; rintro e w' ⟨rfl, rfl⟩) | (go_at_call 80; refine (Ascii.digit_any _ _).mono ?_; rintro e w' ⟨rfl, rfl⟩))
        go_ret
        exact ⟨congrArg (fun x => Ending.returned (Value.bool x)) HF.out.symm, rfl⟩
    · obtain rfl : k = s.size := by omega
      have hall : s.data.toList.all nameB = true := by
        have h := HA.out
        rwa [← HSZ.out, List.take_length] at h
      clear HA
      by_cases h0 : s.size = 0
      · have q0 : s.toList = [] := by rw [Path.tl]; exact List.length_eq_zero_iff.1 (by rw [HSZ.out]; exact h0)
        have HF := Lib.hid (show b = false by
          rw [← HB.out]
          unfold named
          rw [← Path.tl, q0]; rfl)
        have q1 : s.toList.isEmpty = true := by rw [q0]; rfl
        clear hall HB q0
        go_wp2
        go_ret
        exact ⟨congrArg (fun x => Ending.returned (Value.bool x)) HF.out.symm, rfl⟩
      · have hpos : 0 < s.size := by omega
        have HF := Lib.hid (show Ascii.alphaB (s[0].toNat : Int) = b by
          rw [← HB.out]
          unfold named
          rw [hall]
          have e : s.data.toList = s[0] :: s.data.toList.drop 1 := by
            rw [List.drop_one]
            have hne : s.data.toList ≠ [] := fun e => h0 (by rw [← HSZ.out, e]; rfl)
            have := List.cons_head_tail hne
            rw [← this]
            congr 1
            rw [List.head_eq_getElem]; rfl
          conv => rhs; rw [e]
          rfl)
        have q1 : s.toList.isEmpty = false := by
          rw [Path.tl]
          cases h : s.data.toList with
          | nil => rw [← HSZ.out, h] at hpos; exact absurd hpos (by simp)
          | cons a r => rfl
        clear hall HB
        go_wp2_with (go_at_call 79; refine (Ascii.alpha_any _ _).mono ?_; rintro e w' ⟨rfl, rfl⟩)
        go_ret
        exact ⟨congrArg (fun x => Ending.returned (Value.bool x)) HF.out, rfl⟩
end Go.Proofs.YtfdhhjigpboieaaGreatDoor.Url
