/-
  The law PctBack holds for every input: for every text and every number of a set the call returns true and leaves what was there as it was. No condition.
-/
import Derived.Test.YtpbcienekjnelaaRows
import Derived.WalkKit
import Derived.ProofKit
import Derived.OpenShut
import Derived.ShutString
import Derived.Test.YtpbcienekjnelaaPAwake
namespace Go.Proofs.Ytpbcienekjnelaa.pctBack
open Go.ChangeShapes Go.WideShapes Go.ChangeAt Go.RowKit
open Go.ChangeMaps (open_string shut_string)
open Go.Shelf
open Go.Proofs.Ytpbcienekjnelaa.Pct
set_option linter.unusedSimpArgs false
set_option linter.unusedVariables false      -- a walk need not use every 'w<i>' (that an integer argument fits its kind)

theorem own : ownKnob Try.prog.godebug = none := by kernel_rfl

set_option maxRecDepth 100000 in
set_option maxHeartbeats 4000000 in
theorem walkOut (s : ByteArray) (set : Int) (h : decide ((600 : Int) < s.size) = true ∨ (decide ((600 : Int) < s.size) = false ∧ decide (set < 0) = true) ∨ (decide ((600 : Int) < s.size) = false ∧ decide (set < 0) = false ∧ decide (4 < set) = true)) (w : World) :
    Calls Try.prog 5 #[.string s, .int .i64 set] w fun e w' => e = .returned (.bool true) ∧ Below w.heap.size w w' := by
  rcases h with h | ⟨h, h2⟩ | ⟨h, h2, h3⟩
  all_goals
    go_enter Try.func5, Try.ntmps5
    go_wp2_with fail
    refine (awake_at (Below.refl _ w)).mono ?_
    rintro e u ⟨rfl, hB⟩
    go_wp2_with fail
    go_ret
    exact ⟨rfl, hB⟩

set_option maxRecDepth 100000 in
set_option maxHeartbeats 4000000 in
theorem walkIn (s : ByteArray) (set : Int) (h : decide ((600 : Int) < s.size) = false) (h2 : decide (set < 0) = false) (h3 : decide (4 < set) = false) (hs : s.size ≤ 600) (x d : ByteArray) (hx : Hid ((⟨(encode set s.data.toList).toArray⟩ : ByteArray) = x)) (l1 : x.size ≤ 1800)
    (d1 : Hid ((⟨(Pct.decode x.data.toList).toArray⟩ : ByteArray) = d)) (d2 : Hid ((⟨(Pct.decode s.data.toList).toArray⟩ : ByteArray) = d)) (hpl : Hid (plainB s.data.toList = true → (d.toList == s.toList) = true)) (w : World) :
    Calls Try.prog 5 #[.string s, .int .i64 set] w fun e w' => e = .returned (.bool true) ∧ Below w.heap.size w w' := by
  go_enter Try.func5, Try.ntmps5
  go_wp2_with fail
  refine (awake_at (Below.refl _ w)).mono ?_
  rintro e u ⟨rfl, hB⟩
  go_wp2_with fail
  refine (encode_at s (by omega) set x hx.out hB).mono ?_
  rintro e u2 ⟨rfl, hB2⟩
  go_wp2
  go_loop [7, 8] (fun v i => ∃ (k : Nat) (b : Bool), k ≤ s.size ∧ i = .int .i64 k ∧ v = .bool b ∧ Hid (plainB (s.data.toList.take k) = b)) (fun _ i => s.size - (intOf i).toNat)
  case atStart => exact ⟨0, true, Nat.zero_le _, rfl, rfl, Lib.hid rfl⟩
  case round =>
    obtain ⟨k, b, hk, rfl, rfl, hp⟩ := hrel
    by_cases hlt : k < s.size
    · cases hd : ((s[k].toNat : Int) != 37)
      all_goals
        have hn := Lib.hid (show plainB (s.data.toList.take (k + 1)) = (b && _) by rw [plain_snoc s k hlt, hp.out, ← bne37, hd])
        cases b
        all_goals
          go_wp2
          go_round
          case rel => exact ⟨k + 1, _, by omega, by go_num, rfl, hn⟩
          case measure => simp [intOf]; omega
    · obtain rfl : k = s.size := by omega
      have hend : plainB s.data.toList = b := by have := hp.out; rwa [List.take_of_length_le (by exact Nat.le_refl _)] at this
      have he : b = false ∨ (b = true ∧ (d.toList == s.toList) = true) := by
        cases b
        · exact .inl rfl
        · exact .inr ⟨rfl, hpl.out hend⟩
      clear hend
      rcases he with rfl | ⟨rfl, he⟩
      · go_wp2_with fail
        refine (decode_at x (by omega) d d1.out hB2).mono ?_
        rintro e u3 ⟨rfl, hB3⟩
        go_wp2_with fail
        refine (decode_at s (by omega) d d2.out hB3).mono ?_
        rintro e u4 ⟨rfl, hB4⟩
        go_wp2
        go_ret
        exact ⟨rfl, hB4⟩
      · go_wp2_with fail
        refine (decode_at x (by omega) d d1.out hB2).mono ?_
        rintro e u3 ⟨rfl, hB3⟩
        go_wp2_with fail
        refine (decode_at s (by omega) d d2.out hB3).mono ?_
        rintro e u4 ⟨rfl, hB4⟩
        go_wp2_with fail
        refine (decode_at x (by omega) d d1.out hB4).mono ?_
        rintro e u5 ⟨rfl, hB5⟩
        go_wp2_with fail
        refine (decode_at s (by omega) d d2.out hB5).mono ?_
        rintro e u6 ⟨rfl, hB6⟩
        go_wp2
        go_ret
        exact ⟨rfl, hB6⟩

theorem walk (a0 : ByteArray) (a1 : Int) (w0 : a0.size ≤ maxLen) (w1 : (Lit.int .i64 a1).wf = true) (w : World) :
    Calls Try.prog 5 #[.string a0, .int .i64 a1] w fun e w' => e = .returned (.bool true) ∧ Below w.heap.size w w' := by
  cases h : decide ((600 : Int) < a0.size)
  · cases h2 : decide (a1 < 0)
    · cases h3 : decide (4 < a1)
      · have hs : a0.size ≤ 600 := by simp at h; omega
        have l1 := encode_len a1 a0.data.toList
        have z0 : a0.data.toList.length = a0.size := rfl
        have z1 : (⟨(encode a1 a0.data.toList).toArray⟩ : ByteArray).size = (encode a1 a0.data.toList).length := rfl
        refine walkIn a0 a1 h h2 h3 hs _ _ (Lib.hid rfl) (by omega) (Lib.hid (congrArg (fun l : List UInt8 => (⟨l.toArray⟩ : ByteArray)) (decode_encode a1 _ _ (Nat.le_refl _)))) (Lib.hid rfl) (Lib.hid fun hp => ?_) w
        rw [decode_plain _ hp]
        simp
      · exact walkOut a0 a1 (.inr (.inr ⟨h, h2, h3⟩)) w
    · exact walkOut a0 a1 (.inr (.inl ⟨h, h2⟩)) w
  · exact walkOut a0 a1 (.inl h) w

/-! ### The row's step -/
set_option maxRecDepth 100000 in
theorem lifted (os : Os) (started : os.Started) (H : Type) (enc : TypeId × Value → H) :
    ReturnsInHanded {} Try.checked os 5 .any (Rows.pctBackSpec.pre6 enc Try.prog Try.f5 Rows.pctBackRow.domain false) (Rows.pctBackSpec.post enc Try.prog Try.f5 false true false false) := by
  refine returnsInHanded_of_change (C := Try.checked) own started (by kernel_rfl) Try.func5
    (ChangeSpec.witness6 (enc := enc) (C := Try.checked) false ⟨#[], #[.string ByteArray.empty, .int .i64 0], []⟩ 8 (by kernel_rfl) (by kernel_rfl) (by kernel_rfl) (by kernel_rfl)) ?_
  intro W base args ds gs before hval0 hW hcnd _
  have hval : ∀ (j : Nat) t v, Try.f5.params[j]? = some t → args[j]? = some v → Value.okWide Try.prog W .any base t v := hval0
  have hW' := hW
  obtain ⟨p, q, hA0, hV, rfl, hfz, hnd⟩ := hW
  have hA : DataW.TrodAll enc Try.prog W 0 (fun _ => true) true Try.f5.params.toList args.toList ds p := hA0
  rw [Try.params5] at hA hval
  obtain ⟨v0, vs0, d0, ds0, p0, q0, hargs, rfl, rfl, h0, r0⟩ := trodAll_cons hA
  obtain ⟨v1, vs1, d1, ds1, p1, q1, rfl, rfl, rfl, h1, r1⟩ := trodAll_cons r0
  obtain ⟨rfl, rfl, rfl⟩ := trodAll_nil r1
  obtain rfl : args = #[v0, v1] := by cases args; simp_all
  obtain ⟨rfl, rfl⟩ := trodVars_none hV
  obtain ⟨a0, rfl, rfl, rfl, w0⟩ := open_string Try.underlying9 (hval 0 9 v0 rfl rfl) h0
  obtain ⟨a1, rfl, rfl, rfl, w1⟩ := open_int Try.underlying3 (hval 1 3 v1 rfl rfl) h1
  clear hA0 hval0
  simp only [List.append_nil] at hW'
  refine (walk a0 a1 w0 w1 W).mono fun e W' ⟨he, hg⟩ => ?_
  subst he
  exact ⟨_, rfl, _, _, _, [], _, [], hW', trodAll_mk1 (shut_bool Try.underlying4 _), (trodAll_cons_mk (shut_string Try.underlying9 w0) (trodAll_cons_mk (shut_int Try.underlying3 w1) trodAll_mk0)), rfl, hg.frame _, fun h => by cases h⟩

theorem over : Rows.pctBackRow.holds Try.pinned (OpenSpec.ofChange Rows.pctBackSpec) :=
  OpenClaim.holds_of_wide 5 Try.f5 rfl rfl rfl rfl rfl rfl rfl ⟨rfl, rfl, rfl, rfl, rfl⟩ rfl rfl rfl rfl rfl (by kernel_rfl) Try.func5 (by kernel_rfl)
    (of_decide_eq_true (by kernel_rfl)) (by unfold Func.isWrapper; first | (rw [if_pos (by decide +kernel)]; kernel_rfl) | (rw [if_neg (by decide +kernel)]; exact ⟨rfl, rfl⟩))
    (fun os started H enc _ => lifted os started H enc)

/-- The statement. -/
theorem proved : Rows.PctBackSaid :=
  over
#print axioms proved
end Go.Proofs.Ytpbcienekjnelaa.pctBack
