/-
  The law AsciiTells holds for every input: for every byte and every two texts the call returns true and leaves what was there as it was. No condition.
-/
import Derived.Test.YtmhoooenolackaaRows
import Derived.WalkKit
import Derived.ProofKit
import Derived.OpenShut
import Derived.ShutString
import Derived.Test.YtmhoooenolackaaRefd
namespace Go.Proofs.Ytmhoooenolackaa.asciiTells
open Go.ChangeShapes Go.WideShapes Go.ChangeAt Go.RowKit
open Go.ChangeMaps (open_string shut_string)
open Go.Shelf
set_option linter.unusedSimpArgs false
set_option linter.unusedVariables false      -- a walk need not use every 'w<i>' (that an integer argument fits its kind)

theorem own : ownKnob Try.prog.godebug = none := by kernel_rfl

set_option maxRecDepth 100000 in
set_option maxHeartbeats 4000000 in
theorem walkIn (c : Int) (s t : ByteArray) (c0 : 0 ≤ c) (c1 : c ≤ 255) (hs : s.size ≤ 600) (ht : t.size ≤ 600) (w : World) :
    Calls Try.prog 3 #[.int .u8 c, .string s, .string t] w fun e w' => e = .returned (.bool true) ∧ Below w.heap.size w w' := by
  have n1 : decide ((600 : Int) < s.size) = false := by simp; omega
  have n2 : decide ((600 : Int) < t.size) = false := by simp; omega
  go_enter Try.func3, Try.ntmps3
  go_wp2_with fail
  refine (awake_calls _).mono ?_
  rintro e u1 ⟨rfl, hB1⟩
  go_wp2_with fail
  refine (refAlpha_any c _).mono ?_
  rintro e u ⟨rfl, rfl⟩
  go_wp2_with fail
  refine (refDigit_any c _).mono ?_
  rintro e u ⟨rfl, rfl⟩
  go_wp2_with fail
  refine (refSame_any s t hs ht _).mono ?_
  rintro e u2 ⟨rfl, hB2⟩
  go_wp2_with fail
  refine (alpha_any c _).mono ?_
  rintro e u ⟨rfl, rfl⟩
  go_wp2_with fail
  refine (digit_any c _).mono ?_
  rintro e u ⟨rfl, rfl⟩
  go_wp2_with fail
  refine (hex_any c c0 c1 _).mono ?_
  rintro e u ⟨rfl, rfl⟩
  go_wp2_with fail
  refine (refHex_any c c0 c1 _).mono ?_
  rintro e u ⟨rfl, rfl⟩
  go_wp2_with fail
  refine (lower_calls s (by unfold maxLen; omega) (by omega) _).mono ?_
  rintro e u3 ⟨rfl, hB3⟩
  go_wp2_with fail
  refine (refLower_any s hs _).mono ?_
  rintro e u4 ⟨rfl, hB4⟩
  go_wp2_with fail
  refine (same_calls s t (by unfold maxLen; omega) (by omega) (by unfold maxLen; omega) (by omega) _).mono ?_
  rintro e u5 ⟨rfl, hB5⟩
  have hb := Lib.hid (below2 (below4 hB1 hB2 hB3 hB4) hB5)
  clear hB1 hB2 hB3 hB4 hB5
  go_wp2_with fail
  refine (trim_calls s (by unfold maxLen; omega) (by omega) _).mono ?_
  rintro e u6 ⟨rfl, hB6⟩
  go_wp2_with fail
  refine (refTrim_any s hs _).mono ?_
  rintro e u ⟨rfl, rfl⟩
  go_wp2_with fail
  refine (clean_calls s (by unfold maxLen; omega) (by omega) _).mono ?_
  rintro e u7 ⟨rfl, hB7⟩
  go_wp2_with fail
  refine (refClean_any s hs _).mono ?_
  rintro e u8 ⟨rfl, hB8⟩
  have hfin := Lib.hid (below4 hb.out hB6 hB7 hB8)
  clear hB6 hB7 hB8
  go_wp2
  go_ret
  exact ⟨rfl, hfin.out⟩

set_option maxRecDepth 100000 in
set_option maxHeartbeats 4000000 in
theorem walkOut (c : Int) (s t : ByteArray) (hs : s.size ≤ maxLen) (ht : t.size ≤ maxLen) (h : ¬ (s.size ≤ 600 ∧ t.size ≤ 600)) (w : World) :
    Calls Try.prog 3 #[.int .u8 c, .string s, .string t] w fun e w' => e = .returned (.bool true) ∧ Below w.heap.size w w' := by
  unfold maxLen at hs ht
  by_cases h1 : s.size ≤ 600
  · have n1 : decide ((600 : Int) < s.size) = false := by simp; omega
    have n2 : decide ((600 : Int) < t.size) = true := by simp; omega
    clear h h1
    go_enter Try.func3, Try.ntmps3
    go_wp2_with fail
    refine (awake_calls _).mono ?_
    rintro e u1 ⟨rfl, hB1⟩
    go_wp2_with fail
    all_goals (go_ret; exact ⟨rfl, hB1⟩)
  · have n1 : decide ((600 : Int) < s.size) = true := by simp; omega
    clear h h1
    go_enter Try.func3, Try.ntmps3
    go_wp2_with fail
    refine (awake_calls _).mono ?_
    rintro e u1 ⟨rfl, hB1⟩
    go_wp2_with fail
    all_goals (go_ret; exact ⟨rfl, hB1⟩)

theorem walk (a0 : Int) (a1 : ByteArray) (a2 : ByteArray) (w0 : (Lit.int .u8 a0).wf = true) (w1 : a1.size ≤ maxLen) (w2 : a2.size ≤ maxLen) (w : World) :
    Calls Try.prog 3 #[.int .u8 a0, .string a1, .string a2] w fun e w' => e = .returned (.bool true) ∧ Below w.heap.size w w' := by
  have hb := bounds_u8 w0
  by_cases h : a1.size ≤ 600 ∧ a2.size ≤ 600
  · exact walkIn a0 a1 a2 hb.1 hb.2 h.1 h.2 w
  · exact walkOut a0 a1 a2 w1 w2 h w

/-! ### The row's step -/
set_option maxRecDepth 100000 in
theorem lifted (os : Os) (started : os.Started) (H : Type) (enc : TypeId × Value → H) :
    ReturnsInHanded {} Try.checked os 3 .any (Rows.asciiTellsSpec.pre6 enc Try.prog Try.f3 Rows.asciiTellsRow.domain false) (Rows.asciiTellsSpec.post enc Try.prog Try.f3 false true false false) := by
  refine returnsInHanded_of_change (C := Try.checked) own started (by kernel_rfl) Try.func3
    (ChangeSpec.witness6 (enc := enc) (C := Try.checked) false ⟨#[], #[.int .u8 0, .string ByteArray.empty, .string ByteArray.empty], []⟩ 8 (by kernel_rfl) (by kernel_rfl) (by kernel_rfl) (by kernel_rfl)) ?_
  intro W base args ds gs before hval0 hW hcnd _
  have hval : ∀ (j : Nat) t v, Try.f3.params[j]? = some t → args[j]? = some v → Value.okWide Try.prog W .any base t v := hval0
  have hW' := hW
  obtain ⟨p, q, hA0, hV, rfl, hfz, hnd⟩ := hW
  have hA : DataW.TrodAll enc Try.prog W 0 (fun _ => true) true Try.f3.params.toList args.toList ds p := hA0
  rw [Try.params3] at hA hval
  obtain ⟨v0, vs0, d0, ds0, p0, q0, hargs, rfl, rfl, h0, r0⟩ := trodAll_cons hA
  obtain ⟨v1, vs1, d1, ds1, p1, q1, rfl, rfl, rfl, h1, r1⟩ := trodAll_cons r0
  obtain ⟨v2, vs2, d2, ds2, p2, q2, rfl, rfl, rfl, h2, r2⟩ := trodAll_cons r1
  obtain ⟨rfl, rfl, rfl⟩ := trodAll_nil r2
  obtain rfl : args = #[v0, v1, v2] := by cases args; simp_all
  obtain ⟨rfl, rfl⟩ := trodVars_none hV
  obtain ⟨a0, rfl, rfl, rfl, w0⟩ := open_int Try.underlying5 (hval 0 5 v0 rfl rfl) h0
  obtain ⟨a1, rfl, rfl, rfl, w1⟩ := open_string Try.underlying9 (hval 1 9 v1 rfl rfl) h1
  obtain ⟨a2, rfl, rfl, rfl, w2⟩ := open_string Try.underlying9 (hval 2 9 v2 rfl rfl) h2
  clear hA0 hval0
  simp only [List.append_nil] at hW'
  refine (walk a0 a1 a2 w0 w1 w2 W).mono fun e W' ⟨he, hg⟩ => ?_
  subst he
  exact ⟨_, rfl, _, _, _, [], _, [], hW', trodAll_mk1 (shut_bool Try.underlying4 _), (trodAll_cons_mk (shut_int Try.underlying5 w0) (trodAll_cons_mk (shut_string Try.underlying9 w1) (trodAll_cons_mk (shut_string Try.underlying9 w2) trodAll_mk0))), rfl, hg.frame _, fun h => by cases h⟩

theorem over : Rows.asciiTellsRow.holds Try.pinned (OpenSpec.ofChange Rows.asciiTellsSpec) :=
  OpenClaim.holds_of_wide 3 Try.f3 rfl rfl rfl rfl rfl rfl rfl ⟨rfl, rfl, rfl, rfl, rfl⟩ rfl rfl rfl rfl rfl (by kernel_rfl) Try.func3 (by kernel_rfl)
    (of_decide_eq_true (by kernel_rfl)) (by unfold Func.isWrapper; first | (rw [if_pos (by decide +kernel)]; kernel_rfl) | (rw [if_neg (by decide +kernel)]; exact ⟨rfl, rfl⟩))
    (fun os started H enc _ => lifted os started H enc)

/-- The statement. -/
theorem proved : Rows.AsciiTellsSaid :=
  over
#print axioms proved
end Go.Proofs.Ytmhoooenolackaa.asciiTells
