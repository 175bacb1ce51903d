/-
  The law PctDecode holds for every input: for every text and every byte the call returns true and leaves what was there as it was. No condition.
-/
import Derived.Test.YtpbcienekjnelaaRows
import Derived.WalkKit
import Derived.ProofKit
import Derived.OpenShut
import Derived.ShutString
import Derived.Test.YtpbcienekjnelaaPAwake
namespace Go.Proofs.Ytpbcienekjnelaa.pctDecode
open Go.ChangeShapes Go.WideShapes Go.ChangeAt Go.RowKit
open Go.ChangeMaps (open_string shut_string)
open Go.Shelf
open Go.Proofs.Ytpbcienekjnelaa.Pct
set_option linter.unusedSimpArgs false
set_option linter.unusedVariables false      -- a walk need not use every 'w<i>' (that an integer argument fits its kind)

theorem own : ownKnob Try.prog.godebug = none := by kernel_rfl

set_option maxRecDepth 100000 in
set_option maxHeartbeats 4000000 in
theorem walkOut (s : ByteArray) (c : Int) (h : decide ((600 : Int) < s.size) = true) (w : World) :
    Calls Try.prog 9 #[.string s, .int .u8 c] w fun e w' => e = .returned (.bool true) ∧ Below w.heap.size w w' := by
  go_enter Try.func9, Try.ntmps9
  go_wp2_with fail
  refine (awake_at (Below.refl _ w)).mono ?_
  rintro e u ⟨rfl, hB⟩
  go_wp2_with fail
  go_ret
  exact ⟨rfl, hB⟩

/-- The tests of the byte, as the law asks them: a digit to the base of 16. -/
def IsHex (c : Int) : Prop := (decide (48 ≤ c) = true ∧ decide (c ≤ 57) = true) ∨ (decide (48 ≤ c) = true ∧ decide (c ≤ 57) = false ∧ decide (97 ≤ c) = true ∧ decide (c ≤ 102) = true) ∨ (decide (48 ≤ c) = true ∧ decide (c ≤ 57) = false ∧ decide (97 ≤ c) = false ∧ decide (65 ≤ c) = true ∧ decide (c ≤ 70) = true)
/-- None. -/
def IsNot (c : Int) : Prop := (decide (48 ≤ c) = false ∧ decide (97 ≤ c) = false ∧ decide (65 ≤ c) = false) ∨ (decide (48 ≤ c) = true ∧ decide (c ≤ 57) = false ∧ decide (97 ≤ c) = false ∧ decide (65 ≤ c) = false) ∨
  (decide (48 ≤ c) = true ∧ decide (c ≤ 57) = false ∧ decide (97 ≤ c) = false ∧ decide (65 ≤ c) = true ∧ decide (c ≤ 70) = false) ∨ (decide (48 ≤ c) = true ∧ decide (c ≤ 57) = false ∧ decide (97 ≤ c) = true ∧ decide (c ≤ 102) = false ∧ decide (65 ≤ c) = true ∧ decide (c ≤ 70) = false)
instance (c : Int) : Decidable (IsHex c) := by unfold IsHex; infer_instance
instance (c : Int) : Decidable (IsNot c) := by unfold IsNot; infer_instance
theorem hexNot256 : ∀ x : Fin 256, (IsHex ((UInt8.ofNat x.val).toNat : Int) ∧ UInt8.ofNat x.val ≠ 37) ∨ IsNot ((UInt8.ofNat x.val).toNat : Int) := by decide +kernel
theorem hexNot (x : UInt8) : (IsHex (x.toNat : Int) ∧ x ≠ 37) ∨ IsNot (x.toNat : Int) := all256 (p := fun x => (IsHex (x.toNat : Int) ∧ x ≠ 37) ∨ IsNot (x.toNat : Int)) hexNot256 x

set_option maxRecDepth 100000 in
set_option maxHeartbeats 4000000 in
theorem walkIn (s : ByteArray) (y : UInt8) (h : decide ((600 : Int) < s.size) = false) (hs : s.size ≤ 600) (d t : ByteArray) (l1 : d.size ≤ s.size) (l2 : d.size ≤ 600)
    (d1 : Hid ((⟨(Pct.decode s.data.toList).toArray⟩ : ByteArray) = d)) (d2 : Hid ((⟨(Pct.decode ((⟨#[37]⟩ : ByteArray) ++ (⟨#[y]⟩ : ByteArray) ++ (⟨#[103]⟩ : ByteArray) ++ s).data.toList).toArray⟩ : ByteArray) = t)) (lt : ((⟨#[37]⟩ : ByteArray) ++ (⟨#[y]⟩ : ByteArray) ++ (⟨#[103]⟩ : ByteArray) ++ s).size ≤ 1000000)
    (hpl : Hid (plainB s.data.toList = true → (d.toList == s.toList) = true)) (w : World)
    (hy : (IsHex (y.toNat : Int) ∧ (t.toList == ((⟨#[37]⟩ : ByteArray) ++ (⟨#[y]⟩ : ByteArray) ++ (⟨#[103]⟩ : ByteArray) ++ d).toList) = true) ∨
      (IsNot (y.toNat : Int) ∧ (((y.toNat : Int) == 37) = true ∨ (((y.toNat : Int) == 37) = false ∧ (t.toList == ((⟨#[37]⟩ : ByteArray) ++ (⟨#[y]⟩ : ByteArray) ++ (⟨#[103]⟩ : ByteArray) ++ d).toList) = true)))) :
    Calls Try.prog 9 #[.string s, .int .u8 (y.toNat : Int)] w fun e w' => e = .returned (.bool true) ∧ Below w.heap.size w w' := by
  have LT := Lib.hid lt
  clear lt
  go_enter Try.func9, Try.ntmps9
  go_wp2_with fail
  refine (awake_at (Below.refl _ w)).mono ?_
  rintro e u ⟨rfl, hB⟩
  go_wp2_with fail
  refine (decode_at s (by omega) d d1.out hB).mono ?_
  rintro e u2 ⟨rfl, hB2⟩
  go_wp2
  go_loop [7, 8] (fun v i => ∃ (k : Nat) (b : Bool), k ≤ s.size ∧ i = .int .i64 k ∧ v = .bool b ∧ Hid (plainB (s.data.toList.take k) = b)) (fun _ i => s.size - (intOf i).toNat)
  case atStart => exact ⟨0, true, Nat.zero_le _, rfl, rfl, Lib.hid rfl⟩
  case round =>
    obtain ⟨k, b, hk, rfl, rfl, hp⟩ := hrel
    by_cases hlt : k < s.size
    · clear hy
      cases hd : ((s[k].toNat : Int) != 37)
      all_goals
        have hn := Lib.hid (show plainB (s.data.toList.take (k + 1)) = (b && _) by rw [plain_snoc s k hlt, hp.out, ← bne37, hd])
        cases b
        all_goals
          go_wp2
          go_round
          case rel => exact ⟨k + 1, _, by omega, by go_num, rfl, hn⟩
          case measure => simp [intOf]; omega
    · obtain rfl : k = s.size := by omega
      have hend : plainB s.data.toList = b := by have := hp.out; rwa [List.take_of_length_le (by exact Nat.le_refl _)] at this
      have he : b = false ∨ (b = true ∧ (d.toList == s.toList) = true) := by
        cases b
        · exact .inl rfl
        · exact .inr ⟨rfl, hpl.out hend⟩
      clear hend hp
      have hcv := one_conv u2 y
      rcases he with rfl | ⟨rfl, he⟩
      all_goals
        rcases hy with ⟨hy, et⟩ | ⟨hy, e37 | ⟨e37, et⟩⟩
        · rcases hy with ⟨q1, q2⟩ | ⟨q1, q2, q3, q4⟩ | ⟨q1, q2, q3, q4, q5⟩
          all_goals
            go_wp2_with fail
            refine (decode_at _ LT.out t d2.out (hB2.alloc hB2.size _)).mono ?_
            rintro e u3 ⟨rfl, hB3⟩
            have hcv3 := one_conv u3 y
            clear hcv
            go_wp2
            go_ret
            exact ⟨rfl, hB3.alloc hB3.size _⟩
        · rcases hy with ⟨q1, q2, q3⟩ | ⟨q1, q2, q3, q4⟩ | ⟨q1, q2, q3, q4, q5⟩ | ⟨q1, q2, q3, q4, q5, q6⟩
          all_goals
            go_wp2_with fail
            refine (decode_at _ LT.out t d2.out (hB2.alloc hB2.size _)).mono ?_
            rintro e u3 ⟨rfl, hB3⟩
            clear hcv
            go_wp2
            go_ret
            exact ⟨rfl, hB3⟩
        · rcases hy with ⟨q1, q2, q3⟩ | ⟨q1, q2, q3, q4⟩ | ⟨q1, q2, q3, q4, q5⟩ | ⟨q1, q2, q3, q4, q5, q6⟩
          all_goals
            go_wp2_with fail
            refine (decode_at _ LT.out t d2.out (hB2.alloc hB2.size _)).mono ?_
            rintro e u3 ⟨rfl, hB3⟩
            have hcv3 := one_conv u3 y
            clear hcv
            go_wp2
            go_ret
            exact ⟨rfl, hB3.alloc hB3.size _⟩

theorem sign_stays (y : UInt8) (l : List UInt8) (h : y ≠ 37) : Pct.decode (37 :: y :: 103 :: l) = 37 :: y :: 103 :: Pct.decode l := by
  have hg : hexB 103 = false := by decide +kernel
  rw [decode_none (by rw [told_cons, if_neg]; rintro ⟨_, _, h⟩; rw [hg] at h; cases h), decode_other h, decode_other (by decide)]

theorem walk (a0 : ByteArray) (a1 : Int) (w0 : a0.size ≤ maxLen) (w1 : (Lit.int .u8 a1).wf = true) (w : World) :
    Calls Try.prog 9 #[.string a0, .int .u8 a1] w fun e w' => e = .returned (.bool true) ∧ Below w.heap.size w w' := by
  cases h : decide ((600 : Int) < a0.size)
  · obtain ⟨y, rfl⟩ := byte_of w1
    have hs : a0.size ≤ 600 := by simp at h; omega
    have z0 : a0.data.toList.length = a0.size := rfl
    have l1 := decode_len _ a0.data.toList (Nat.le_refl _)
    have key : y ≠ 37 → ((⟨(Pct.decode ((⟨#[37]⟩ : ByteArray) ++ (⟨#[y]⟩ : ByteArray) ++ (⟨#[103]⟩ : ByteArray) ++ a0).data.toList).toArray⟩ : ByteArray).toList == ((⟨#[37]⟩ : ByteArray) ++ (⟨#[y]⟩ : ByteArray) ++ (⟨#[103]⟩ : ByteArray) ++ (⟨(Pct.decode a0.data.toList).toArray⟩ : ByteArray)).toList) = true := by
      intro h
      rw [ByteArray.toList_eq, ByteArray.toList_eq, text_append, text_append, text_append, text_append, text_append, text_append]
      have := sign_stays y a0.data.toList h
      simpa using this
    refine walkIn a0 y h hs _ _ (by rw [size_of]; omega) (by rw [size_of]; omega) (Lib.hid rfl) (Lib.hid rfl) ?_ (Lib.hid fun hp => ?_) w ?_
    · rw [ByteArray.size_append, ByteArray.size_append, ByteArray.size_append]
      show 1 + 1 + 1 + a0.size ≤ 1000000
      omega
    · rw [decode_plain _ hp]
      simp
    · rcases hexNot y with ⟨h1, h2⟩ | h1
      · exact .inl ⟨h1, key h2⟩
      · refine .inr ⟨h1, ?_⟩
        by_cases h2 : y = 37
        · exact .inl (by rw [eq37]; simpa using h2)
        · exact .inr ⟨by rw [eq37]; simpa using h2, key h2⟩
  · exact walkOut a0 a1 h w

/-! ### The row's step -/
set_option maxRecDepth 100000 in
theorem lifted (os : Os) (started : os.Started) (H : Type) (enc : TypeId × Value → H) :
    ReturnsInHanded {} Try.checked os 9 .any (Rows.pctDecodeSpec.pre6 enc Try.prog Try.f9 Rows.pctDecodeRow.domain false) (Rows.pctDecodeSpec.post enc Try.prog Try.f9 false true false false) := by
  refine returnsInHanded_of_change (C := Try.checked) own started (by kernel_rfl) Try.func9
    (ChangeSpec.witness6 (enc := enc) (C := Try.checked) false ⟨#[], #[.string ByteArray.empty, .int .u8 0], []⟩ 8 (by kernel_rfl) (by kernel_rfl) (by kernel_rfl) (by kernel_rfl)) ?_
  intro W base args ds gs before hval0 hW hcnd _
  have hval : ∀ (j : Nat) t v, Try.f9.params[j]? = some t → args[j]? = some v → Value.okWide Try.prog W .any base t v := hval0
  have hW' := hW
  obtain ⟨p, q, hA0, hV, rfl, hfz, hnd⟩ := hW
  have hA : DataW.TrodAll enc Try.prog W 0 (fun _ => true) true Try.f9.params.toList args.toList ds p := hA0
  rw [Try.params9] at hA hval
  obtain ⟨v0, vs0, d0, ds0, p0, q0, hargs, rfl, rfl, h0, r0⟩ := trodAll_cons hA
  obtain ⟨v1, vs1, d1, ds1, p1, q1, rfl, rfl, rfl, h1, r1⟩ := trodAll_cons r0
  obtain ⟨rfl, rfl, rfl⟩ := trodAll_nil r1
  obtain rfl : args = #[v0, v1] := by cases args; simp_all
  obtain ⟨rfl, rfl⟩ := trodVars_none hV
  obtain ⟨a0, rfl, rfl, rfl, w0⟩ := open_string Try.underlying9 (hval 0 9 v0 rfl rfl) h0
  obtain ⟨a1, rfl, rfl, rfl, w1⟩ := open_int Try.underlying5 (hval 1 5 v1 rfl rfl) h1
  clear hA0 hval0
  simp only [List.append_nil] at hW'
  refine (walk a0 a1 w0 w1 W).mono fun e W' ⟨he, hg⟩ => ?_
  subst he
  exact ⟨_, rfl, _, _, _, [], _, [], hW', trodAll_mk1 (shut_bool Try.underlying4 _), (trodAll_cons_mk (shut_string Try.underlying9 w0) (trodAll_cons_mk (shut_int Try.underlying5 w1) trodAll_mk0)), rfl, hg.frame _, fun h => by cases h⟩

theorem over : Rows.pctDecodeRow.holds Try.pinned (OpenSpec.ofChange Rows.pctDecodeSpec) :=
  OpenClaim.holds_of_wide 9 Try.f9 rfl rfl rfl rfl rfl rfl rfl ⟨rfl, rfl, rfl, rfl, rfl⟩ rfl rfl rfl rfl rfl (by kernel_rfl) Try.func9 (by kernel_rfl)
    (of_decide_eq_true (by kernel_rfl)) (by unfold Func.isWrapper; first | (rw [if_pos (by decide +kernel)]; kernel_rfl) | (rw [if_neg (by decide +kernel)]; exact ⟨rfl, rfl⟩))
    (fun os started H enc _ => lifted os started H enc)

/-- The statement. -/
theorem proved : Rows.PctDecodeSaid :=
  over
#print axioms proved
end Go.Proofs.Ytpbcienekjnelaa.pctDecode
