/-
  The law PctSets holds for every input: for every byte the call returns true and leaves what was there as it was. No condition.
-/
import Derived.Test.YtpbcienekjnelaaRows
import Derived.WalkKit
import Derived.ProofKit
import Derived.OpenShut
import Derived.ShutString
import Derived.Test.YtpbcienekjnelaaPAwake
namespace Go.Proofs.Ytpbcienekjnelaa.pctSets
open Go.ChangeShapes Go.WideShapes Go.ChangeAt Go.RowKit
open Go.ChangeMaps (open_string shut_string)
open Go.Shelf
open Go.Proofs.Ytpbcienekjnelaa.Pct
set_option linter.unusedSimpArgs false
set_option linter.unusedVariables false      -- a walk need not use every 'w<i>' (that an integer argument fits its kind)

theorem own : ownKnob Try.prog.godebug = none := by kernel_rfl

/-- Which of the sets 0 to 4 have the byte. -/
def Has (x : UInt8) (b0 b1 b2 b3 b4 : Bool) : Prop := inB 0 x = b0 ∧ inB 1 x = b1 ∧ inB 2 x = b2 ∧ inB 3 x = b3 ∧ inB 4 x = b4
instance (x : UInt8) (b0 b1 b2 b3 b4 : Bool) : Decidable (Has x b0 b1 b2 b3 b4) := by unfold Has; infer_instance
/-- The tests of the byte, as the law asks them: plain ones. -/
def Plain (c : Int) : Prop := (decide (97 ≤ c) = true ∧ decide (c ≤ 122) = true) ∨ (decide (97 ≤ c) = false ∧ decide (65 ≤ c) = true ∧ decide (c ≤ 90) = true) ∨ (decide (97 ≤ c) = false ∧ decide (65 ≤ c) = false ∧ decide (48 ≤ c) = true ∧ decide (c ≤ 57) = true) ∨
  (decide (97 ≤ c) = false ∧ decide (65 ≤ c) = false ∧ decide (48 ≤ c) = false ∧ (c == 37) = true) ∨ (decide (97 ≤ c) = false ∧ decide (65 ≤ c) = false ∧ decide (48 ≤ c) = false ∧ (c == 37) = false ∧ (c == 45) = true) ∨
  (decide (97 ≤ c) = false ∧ decide (65 ≤ c) = false ∧ decide (48 ≤ c) = false ∧ (c == 37) = false ∧ (c == 45) = false ∧ (c == 46) = true) ∨
  (decide (97 ≤ c) = false ∧ decide (65 ≤ c) = true ∧ decide (c ≤ 90) = false ∧ decide (48 ≤ c) = true ∧ decide (c ≤ 57) = false ∧ (c == 37) = false ∧ (c == 45) = false ∧ (c == 46) = false ∧ (c == 95) = true)
/-- Others. -/
def Other (c : Int) : Prop := ((c == 37) = false ∧ (c == 45) = false ∧ (c == 46) = false ∧ (c == 95) = false) ∧
  ((decide (97 ≤ c) = false ∧ decide (65 ≤ c) = false ∧ decide (48 ≤ c) = false) ∨ (decide (97 ≤ c) = false ∧ decide (65 ≤ c) = false ∧ decide (48 ≤ c) = true ∧ decide (c ≤ 57) = false) ∨
    (decide (97 ≤ c) = false ∧ decide (65 ≤ c) = true ∧ decide (c ≤ 90) = false ∧ decide (48 ≤ c) = true ∧ decide (c ≤ 57) = false) ∨ (decide (97 ≤ c) = true ∧ decide (c ≤ 122) = false ∧ decide (65 ≤ c) = true ∧ decide (c ≤ 90) = false ∧ decide (48 ≤ c) = true ∧ decide (c ≤ 57) = false))
instance (c : Int) : Decidable (Plain c) := by unfold Plain; infer_instance
instance (c : Int) : Decidable (Other c) := by unfold Other; infer_instance
def Ways (x : UInt8) : Prop := (Plain (x.toNat : Int) ∧ Has x false false false false false) ∨
  (Other (x.toNat : Int) ∧ (Has x true true true true true ∨ Has x false true true true true ∨ Has x false true false true true ∨ Has x false false true true true ∨ Has x false false false true true ∨ Has x false false false false true ∨ Has x false false false false false))
instance (x : UInt8) : Decidable (Ways x) := by unfold Ways; infer_instance
theorem ways256 : ∀ x : Fin 256, Ways (UInt8.ofNat x.val) := by decide +kernel
theorem ways (x : UInt8) : Ways x := all256 ways256 x

theorem none5 (x : UInt8) : inB 5 x = false := rfl
theorem noneM (x : UInt8) : inB (-1) x = false := rfl

set_option maxRecDepth 100000 in
set_option maxHeartbeats 4000000 in
theorem walkPlain (x : UInt8) (E0 : Hid (inB 0 x = false)) (E1 : Hid (inB 1 x = false)) (E2 : Hid (inB 2 x = false)) (E3 : Hid (inB 3 x = false)) (E4 : Hid (inB 4 x = false)) (w : World) (hp : Plain (x.toNat : Int)) :
    Calls Try.prog 6 #[.int .u8 (x.toNat : Int)] w fun e w' => e = .returned (.bool true) ∧ Below w.heap.size w w' := by
  have E5 := Lib.hid (none5 x)
  have EM := Lib.hid (noneM x)
  rcases hp with ⟨d1, d2⟩ | ⟨d1, d2, d3⟩ | ⟨d1, d2, d3, d4⟩ | ⟨d1, d2, d3, d4⟩ | ⟨d1, d2, d3, d4, d5⟩ | ⟨d1, d2, d3, d4, d5, d6⟩ | ⟨d1, d2, d3, d4, d5, d6, d7, d8, d9⟩
  all_goals
    go_enter Try.func6, Try.ntmps6
    go_wp2_with fail
    refine (awake_at (Below.refl _ w)).mono ?_
    rintro e u ⟨rfl, hB⟩
    go_wp2_with (go_at_call 13; refine (in_at _ x _ (by first | exact E0.out | exact E1.out | exact E2.out | exact E3.out | exact E4.out | exact E5.out | exact EM.out) (by assumption)).mono ?_; rintro e u ⟨rfl, hB⟩)
    go_ret
    exact ⟨rfl, by assumption⟩

set_option maxRecDepth 100000 in
set_option maxHeartbeats 4000000 in
theorem walkOther (x : UInt8) (b0 b1 b2 b3 b4 : Bool) (E0 : Hid (inB 0 x = b0)) (E1 : Hid (inB 1 x = b1)) (E2 : Hid (inB 2 x = b2)) (E3 : Hid (inB 3 x = b3)) (E4 : Hid (inB 4 x = b4)) (w : World) (hp : Other (x.toNat : Int))
    (hb : (b0 = true ∧ b1 = true ∧ b2 = true ∧ b3 = true ∧ b4 = true) ∨ (b0 = false ∧ ((b2 = true ∧ b3 = true ∧ b4 = true) ∨ (b2 = false ∧ ((b3 = true ∧ b4 = true) ∨ b3 = false))))) :
    Calls Try.prog 6 #[.int .u8 (x.toNat : Int)] w fun e w' => e = .returned (.bool true) ∧ Below w.heap.size w w' := by
  have E5 := Lib.hid (none5 x)
  have EM := Lib.hid (noneM x)
  obtain ⟨⟨q1, q2, q3, q4⟩, hp⟩ := hp
  rcases hp with ⟨d1, d2, d3⟩ | ⟨d1, d2, d3, d4⟩ | ⟨d1, d2, d3, d4, d5⟩ | ⟨d1, d2, d3, d4, d5, d6⟩
  all_goals
    rcases hb with ⟨rfl, rfl, rfl, rfl, rfl⟩ | ⟨rfl, ⟨rfl, rfl, rfl⟩ | ⟨rfl, ⟨rfl, rfl⟩ | rfl⟩⟩
    all_goals
      go_enter Try.func6, Try.ntmps6
      go_wp2_with fail
      refine (awake_at (Below.refl _ w)).mono ?_
      rintro e u ⟨rfl, hB⟩
      go_wp2_with (go_at_call 13; refine (in_at _ x _ (by first | exact E0.out | exact E1.out | exact E2.out | exact E3.out | exact E4.out | exact E5.out | exact EM.out) (by assumption)).mono ?_; rintro e u ⟨rfl, hB⟩)
      go_ret
      exact ⟨rfl, by assumption⟩

theorem walk (a0 : Int) (w0 : (Lit.int .u8 a0).wf = true) (w : World) :
    Calls Try.prog 6 #[.int .u8 a0] w fun e w' => e = .returned (.bool true) ∧ Below w.heap.size w w' := by
  obtain ⟨x, rfl⟩ := byte_of w0
  rcases ways x with ⟨hp, h0, h1, h2, h3, h4⟩ | ⟨hp, hh⟩
  · exact walkPlain x (Lib.hid h0) (Lib.hid h1) (Lib.hid h2) (Lib.hid h3) (Lib.hid h4) w hp
  · rcases hh with hh | hh | hh | hh | hh | hh | hh
    all_goals
      obtain ⟨h0, h1, h2, h3, h4⟩ := hh
      exact walkOther x _ _ _ _ _ (Lib.hid h0) (Lib.hid h1) (Lib.hid h2) (Lib.hid h3) (Lib.hid h4) w hp (by simp)

/-! ### The row's step -/
set_option maxRecDepth 100000 in
theorem lifted (os : Os) (started : os.Started) (H : Type) (enc : TypeId × Value → H) :
    ReturnsInHanded {} Try.checked os 6 .any (Rows.pctSetsSpec.pre6 enc Try.prog Try.f6 Rows.pctSetsRow.domain false) (Rows.pctSetsSpec.post enc Try.prog Try.f6 false true false false) := by
  refine returnsInHanded_of_change (C := Try.checked) own started (by kernel_rfl) Try.func6
    (ChangeSpec.witness6 (enc := enc) (C := Try.checked) false ⟨#[], #[.int .u8 0], []⟩ 8 (by kernel_rfl) (by kernel_rfl) (by kernel_rfl) (by kernel_rfl)) ?_
  intro W base args ds gs before hval0 hW hcnd _
  have hval : ∀ (j : Nat) t v, Try.f6.params[j]? = some t → args[j]? = some v → Value.okWide Try.prog W .any base t v := hval0
  have hW' := hW
  obtain ⟨p, q, hA0, hV, rfl, hfz, hnd⟩ := hW
  have hA : DataW.TrodAll enc Try.prog W 0 (fun _ => true) true Try.f6.params.toList args.toList ds p := hA0
  rw [Try.params6] at hA hval
  obtain ⟨v0, vs0, d0, ds0, p0, q0, hargs, rfl, rfl, h0, r0⟩ := trodAll_cons hA
  obtain ⟨rfl, rfl, rfl⟩ := trodAll_nil r0
  obtain rfl : args = #[v0] := by cases args; simp_all
  obtain ⟨rfl, rfl⟩ := trodVars_none hV
  obtain ⟨a0, rfl, rfl, rfl, w0⟩ := open_int Try.underlying5 (hval 0 5 v0 rfl rfl) h0
  clear hA0 hval0
  simp only [List.append_nil] at hW'
  refine (walk a0 w0 W).mono fun e W' ⟨he, hg⟩ => ?_
  subst he
  exact ⟨_, rfl, _, _, _, [], _, [], hW', trodAll_mk1 (shut_bool Try.underlying4 _), (trodAll_cons_mk (shut_int Try.underlying5 w0) trodAll_mk0), rfl, hg.frame _, fun h => by cases h⟩

theorem over : Rows.pctSetsRow.holds Try.pinned (OpenSpec.ofChange Rows.pctSetsSpec) :=
  OpenClaim.holds_of_wide 6 Try.f6 rfl rfl rfl rfl rfl rfl rfl ⟨rfl, rfl, rfl, rfl, rfl⟩ rfl rfl rfl rfl rfl (by kernel_rfl) Try.func6 (by kernel_rfl)
    (of_decide_eq_true (by kernel_rfl)) (by unfold Func.isWrapper; first | (rw [if_pos (by decide +kernel)]; kernel_rfl) | (rw [if_neg (by decide +kernel)]; exact ⟨rfl, rfl⟩))
    (fun os started H enc _ => lifted os started H enc)

/-- The statement. -/
theorem proved : Rows.PctSetsSaid :=
  over
#print axioms proved
end Go.Proofs.Ytpbcienekjnelaa.pctSets
