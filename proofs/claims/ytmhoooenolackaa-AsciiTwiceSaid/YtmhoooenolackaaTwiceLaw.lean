/-
  The law AsciiTwice holds for every input: for every text the call returns true and leaves what was there as it was. No condition.
-/
import Derived.Test.YtmhoooenolackaaRows
import Derived.WalkKit
import Derived.ProofKit
import Derived.OpenShut
import Derived.ShutString
import Derived.Test.YtmhoooenolackaaAid
namespace Go.Proofs.Ytmhoooenolackaa.asciiTwice
open Go.ChangeShapes Go.WideShapes Go.ChangeAt Go.RowKit
open Go.ChangeMaps (open_string shut_string)
open Go.Shelf
set_option linter.unusedSimpArgs false
set_option linter.unusedVariables false      -- a walk need not use every 'w<i>' (that an integer argument fits its kind)

theorem own : ownKnob Try.prog.godebug = none := by kernel_rfl

set_option maxRecDepth 100000 in
set_option maxHeartbeats 2000000 in
theorem walk (a0 : ByteArray) (w0 : a0.size ≤ maxLen) (w : World) :
    Calls Try.prog 4 #[.string a0] w fun e w' => e = .returned (.bool true) ∧ Below w.heap.size w w' := by
  unfold maxLen at w0
  by_cases hlen : a0.size ≤ 600
  · have e1 := Lib.hid (lower_lower a0.data.toList)
    have e2 := Lib.hid (trim_trim a0.data.toList)
    have e3 := Lib.hid (clean_clean a0.data.toList)
    have l1 : (lower a0.data.toList).length = a0.size := List.length_map _
    have l2 : (trim a0.data.toList).length ≤ a0.size := trim_length a0.data.toList
    have l3 : (clean a0.data.toList).length ≤ (trim a0.data.toList).length := List.length_filter_le _ _
    have hn : ¬ (600 : Int) < a0.size := by omega
    generalize hlo : lower a0.data.toList = lo at *
    generalize htr : trim a0.data.toList = tr at *
    generalize hcl : clean a0.data.toList = cl at *
    have m1 := Lib.hid l1
    clear l1
    have HL := Lib.hid hlo
    have HT := Lib.hid htr
    have HC := Lib.hid hcl
    clear hlo htr hcl
    go_enter Try.func4, Try.ntmps4
    go_wp2_with fail
    refine (awake_calls _).mono ?_
    rintro e u1 ⟨rfl, hB1⟩
    go_wp2_with fail
    refine (lower_calls a0 (by unfold maxLen; omega) (by omega) _).mono ?_
    rintro e u2 ⟨rfl, hB2⟩
    rw [HL.out]
    go_wp2_with fail
    refine (trim_calls a0 (by unfold maxLen; omega) (by omega) _).mono ?_
    rintro e u3 ⟨rfl, hB3⟩
    rw [HT.out]
    go_wp2_with fail
    refine (clean_calls a0 (by unfold maxLen; omega) (by omega) _).mono ?_
    rintro e u4 ⟨rfl, hB4⟩
    rw [HC.out]
    go_wp2_with fail
    refine (lower_calls ⟨lo.toArray⟩ (by show lo.length ≤ maxLen; have := m1.out; unfold maxLen; omega) (by show lo.length ≤ _; have := m1.out; omega) _).mono ?_
    rintro e u5 ⟨rfl, hB5⟩
    rw [show lower (⟨lo.toArray⟩ : ByteArray).data.toList = lo from by simpa using e1.out]
    go_wp2_with fail
    refine (trim_calls ⟨tr.toArray⟩ (by show tr.length ≤ maxLen; unfold maxLen; omega) (by show tr.length ≤ _; omega) _).mono ?_
    rintro e u6 ⟨rfl, hB6⟩
    rw [show trim (⟨tr.toArray⟩ : ByteArray).data.toList = tr from by simpa using e2.out]
    go_wp2_with fail
    refine (clean_calls ⟨cl.toArray⟩ (by show cl.length ≤ maxLen; unfold maxLen; omega) (by show cl.length ≤ _; omega) _).mono ?_
    rintro e u7 ⟨rfl, hB7⟩
    rw [show clean (⟨cl.toArray⟩ : ByteArray).data.toList = cl from by simpa using e3.out]
    have hfin := Lib.hid (below7 hB1 hB2 hB3 hB4 hB5 hB6 hB7)
    clear hB1 hB2 hB3 hB4 hB5 hB6 hB7
    have m1' := m1.out
    go_wp2
    go_ret
    exact ⟨rfl, hfin.out⟩
  · have hn : (600 : Int) < a0.size := by omega
    go_enter Try.func4, Try.ntmps4
    go_wp2_with fail
    refine (awake_calls _).mono ?_
    rintro e u1 ⟨rfl, hB1⟩
    go_wp2
    go_ret
    exact ⟨rfl, hB1⟩

/-! ### The row's step -/
set_option maxRecDepth 100000 in
theorem lifted (os : Os) (started : os.Started) (H : Type) (enc : TypeId × Value → H) :
    ReturnsInHanded {} Try.checked os 4 .any (Rows.asciiTwiceSpec.pre6 enc Try.prog Try.f4 Rows.asciiTwiceRow.domain false) (Rows.asciiTwiceSpec.post enc Try.prog Try.f4 false true false false) := by
  refine returnsInHanded_of_change (C := Try.checked) own started (by kernel_rfl) Try.func4
    (ChangeSpec.witness6 (enc := enc) (C := Try.checked) false ⟨#[], #[.string ByteArray.empty], []⟩ 8 (by kernel_rfl) (by kernel_rfl) (by kernel_rfl) (by kernel_rfl)) ?_
  intro W base args ds gs before hval0 hW hcnd _
  have hval : ∀ (j : Nat) t v, Try.f4.params[j]? = some t → args[j]? = some v → Value.okWide Try.prog W .any base t v := hval0
  have hW' := hW
  obtain ⟨p, q, hA0, hV, rfl, hfz, hnd⟩ := hW
  have hA : DataW.TrodAll enc Try.prog W 0 (fun _ => true) true Try.f4.params.toList args.toList ds p := hA0
  rw [Try.params4] at hA hval
  obtain ⟨v0, vs0, d0, ds0, p0, q0, hargs, rfl, rfl, h0, r0⟩ := trodAll_cons hA
  obtain ⟨rfl, rfl, rfl⟩ := trodAll_nil r0
  obtain rfl : args = #[v0] := by cases args; simp_all
  obtain ⟨rfl, rfl⟩ := trodVars_none hV
  obtain ⟨a0, rfl, rfl, rfl, w0⟩ := open_string Try.underlying9 (hval 0 9 v0 rfl rfl) h0
  clear hA0 hval0
  simp only [List.append_nil] at hW'
  refine (walk a0 w0 W).mono fun e W' ⟨he, hg⟩ => ?_
  subst he
  exact ⟨_, rfl, _, _, _, [], _, [], hW', trodAll_mk1 (shut_bool Try.underlying4 _), (trodAll_cons_mk (shut_string Try.underlying9 w0) trodAll_mk0), rfl, hg.frame _, fun h => by cases h⟩

theorem over : Rows.asciiTwiceRow.holds Try.pinned (OpenSpec.ofChange Rows.asciiTwiceSpec) :=
  OpenClaim.holds_of_wide 4 Try.f4 rfl rfl rfl rfl rfl rfl rfl ⟨rfl, rfl, rfl, rfl, rfl⟩ rfl rfl rfl rfl rfl (by kernel_rfl) Try.func4 (by kernel_rfl)
    (of_decide_eq_true (by kernel_rfl)) (by unfold Func.isWrapper; first | (rw [if_pos (by decide +kernel)]; kernel_rfl) | (rw [if_neg (by decide +kernel)]; exact ⟨rfl, rfl⟩))
    (fun os started H enc _ => lifted os started H enc)

/-- The statement. -/
theorem proved : Rows.AsciiTwiceSaid :=
  over
#print axioms proved
end Go.Proofs.Ytmhoooenolackaa.asciiTwice
