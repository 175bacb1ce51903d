/-
  The law DeciApart holds for every input: for every two numbers the call returns true and leaves what was there as it was. No condition.
-/
import Derived.Test.YtdmjolmclnnngaaRows
import Derived.WalkKit
import Derived.ProofKit
import Derived.OpenShut
import Derived.ShutString
import Derived.Test.YtdmjolmclnnngaaAwake
namespace Go.Proofs.Ytdmjolmclnnngaa.deciApart
open Go.ChangeShapes Go.WideShapes Go.ChangeAt Go.RowKit
open Go.ChangeMaps (open_string shut_string)
open Go.Shelf
set_option linter.unusedSimpArgs false
set_option linter.unusedVariables false      -- a walk need not use every 'w<i>' (that an integer argument fits its kind)

theorem own : ownKnob Try.prog.godebug = none := by kernel_rfl

theorem show_at (n : Int) (h : -9223372036854775808 ≤ n ∧ n ≤ 9223372036854775807) (x : ByteArray) (hx : (⟨(showI n).toArray⟩ : ByteArray) = x) (w : World) :
    Calls Try.prog 13 #[.int .i64 n] w fun e W' => e = .returned (.string x) ∧ Below w.heap.size w W' := by
  subst hx
  exact show_calls n h.1 h.2 w

set_option maxRecDepth 100000 in
set_option maxHeartbeats 4000000 in
theorem walkIn (a b : Int) (ha : Hid (-9223372036854775808 ≤ a ∧ a ≤ 9223372036854775807)) (hb : Hid (-9223372036854775808 ≤ b ∧ b ≤ 9223372036854775807)) (xb yb : ByteArray) (HX : Hid ((⟨(showI a).toArray⟩ : ByteArray) = xb)) (HY : Hid ((⟨(showI b).toArray⟩ : ByteArray) = yb))
    (e : Bool) (e1 : (xb.toList == yb.toList) = e) (e2 : (a == b) = e) (x1 : 1 ≤ xb.size) (x20 : xb.size ≤ 20) (y20 : yb.size ≤ 20)
    (hc : decide (a < 0) = true ∨ (decide (a < 0) = false ∧ decide (b < a) = true) ∨ (decide (a < 0) = false ∧ decide (b < a) = false ∧ xb.size ≤ yb.size)) (w : World) :
    Calls Try.prog 5 #[.int .i64 a, .int .i64 b] w fun e w' => e = .returned (.bool true) ∧ Below w.heap.size w w' := by
  have t20 : decide ((xb.size : Int) ≤ 20) = true := by simp; omega
  cases e
  all_goals
    rcases hc with c1 | ⟨c1, c2⟩ | ⟨c1, c2, c3⟩
    all_goals
      go_enter Try.func5, Try.ntmps5
      go_wp2_with fail
      refine (awake_calls _).mono ?_
      rintro e u1 ⟨rfl, hB1⟩
      go_wp2_with fail
      refine (show_at a ha.out xb HX.out _).mono ?_
      rintro e u2 ⟨rfl, hB2⟩
      go_wp2_with fail
      refine (show_at b hb.out yb HY.out _).mono ?_
      rintro e u3 ⟨rfl, hB3⟩
      have hB := Lib.hid (below3 hB1 hB2 hB3)
      clear hB1 hB2 hB3
      go_wp2
      go_ret
      exact ⟨rfl, hB.out⟩

theorem walk (a0 : Int) (a1 : Int) (w0 : (Lit.int .i64 a0).wf = true) (w1 : (Lit.int .i64 a1).wf = true) (w : World) :
    Calls Try.prog 5 #[.int .i64 a0, .int .i64 a1] w fun e w' => e = .returned (.bool true) ∧ Below w.heap.size w w' := by
  have ha := bounds_i64 w0
  have hb := bounds_i64 w1
  have la := showI_len a0 ha.1 ha.2
  have lb := showI_len a1 hb.1 hb.2
  have za : (⟨(showI a0).toArray⟩ : ByteArray).size = (showI a0).length := rfl
  have zb : (⟨(showI a1).toArray⟩ : ByteArray).size = (showI a1).length := rfl
  refine walkIn a0 a1 (Lib.hid ha) (Lib.hid hb) _ _ (Lib.hid rfl) (Lib.hid rfl) (a0 == a1) ?_ rfl (by omega) (by omega) (by omega) ?_ w
  · rw [ByteArray.toList_eq, ByteArray.toList_eq, Bool.eq_iff_iff]
    simp
    exact ⟨showI_inj, fun h => by rw [h]⟩
  · by_cases h1 : a0 < 0
    · exact .inl (by simpa using h1)
    · by_cases h2 : a1 < a0
      · exact .inr (.inl ⟨by simpa using h1, by simpa using h2⟩)
      · refine .inr (.inr ⟨by simpa using h1, by simpa using h2, ?_⟩)
        rw [za, zb, showI_nonneg (by omega), showI_nonneg (by omega)]
        exact showN_len_mono (by omega)

/-! ### The row's step -/
set_option maxRecDepth 100000 in
theorem lifted (os : Os) (started : os.Started) (H : Type) (enc : TypeId × Value → H) :
    ReturnsInHanded {} Try.checked os 5 .any (Rows.deciApartSpec.pre6 enc Try.prog Try.f5 Rows.deciApartRow.domain false) (Rows.deciApartSpec.post enc Try.prog Try.f5 false true false false) := by
  refine returnsInHanded_of_change (C := Try.checked) own started (by kernel_rfl) Try.func5
    (ChangeSpec.witness6 (enc := enc) (C := Try.checked) false ⟨#[], #[.int .i64 0, .int .i64 0], []⟩ 8 (by kernel_rfl) (by kernel_rfl) (by kernel_rfl) (by kernel_rfl)) ?_
  intro W base args ds gs before hval0 hW hcnd _
  have hval : ∀ (j : Nat) t v, Try.f5.params[j]? = some t → args[j]? = some v → Value.okWide Try.prog W .any base t v := hval0
  have hW' := hW
  obtain ⟨p, q, hA0, hV, rfl, hfz, hnd⟩ := hW
  have hA : DataW.TrodAll enc Try.prog W 0 (fun _ => true) true Try.f5.params.toList args.toList ds p := hA0
  rw [Try.params5] at hA hval
  obtain ⟨v0, vs0, d0, ds0, p0, q0, hargs, rfl, rfl, h0, r0⟩ := trodAll_cons hA
  obtain ⟨v1, vs1, d1, ds1, p1, q1, rfl, rfl, rfl, h1, r1⟩ := trodAll_cons r0
  obtain ⟨rfl, rfl, rfl⟩ := trodAll_nil r1
  obtain rfl : args = #[v0, v1] := by cases args; simp_all
  obtain ⟨rfl, rfl⟩ := trodVars_none hV
  obtain ⟨a0, rfl, rfl, rfl, w0⟩ := open_int Try.underlying3 (hval 0 3 v0 rfl rfl) h0
  obtain ⟨a1, rfl, rfl, rfl, w1⟩ := open_int Try.underlying3 (hval 1 3 v1 rfl rfl) h1
  clear hA0 hval0
  simp only [List.append_nil] at hW'
  refine (walk a0 a1 w0 w1 W).mono fun e W' ⟨he, hg⟩ => ?_
  subst he
  exact ⟨_, rfl, _, _, _, [], _, [], hW', trodAll_mk1 (shut_bool Try.underlying4 _), (trodAll_cons_mk (shut_int Try.underlying3 w0) (trodAll_cons_mk (shut_int Try.underlying3 w1) trodAll_mk0)), rfl, hg.frame _, fun h => by cases h⟩

theorem over : Rows.deciApartRow.holds Try.pinned (OpenSpec.ofChange Rows.deciApartSpec) :=
  OpenClaim.holds_of_wide 5 Try.f5 rfl rfl rfl rfl rfl rfl rfl ⟨rfl, rfl, rfl, rfl, rfl⟩ rfl rfl rfl rfl rfl (by kernel_rfl) Try.func5 (by kernel_rfl)
    (of_decide_eq_true (by kernel_rfl)) (by unfold Func.isWrapper; first | (rw [if_pos (by decide +kernel)]; kernel_rfl) | (rw [if_neg (by decide +kernel)]; exact ⟨rfl, rfl⟩))
    (fun os started H enc _ => lifted os started H enc)

/-- The statement. -/
theorem proved : Rows.DeciApartSaid :=
  over
#print axioms proved
end Go.Proofs.Ytdmjolmclnnngaa.deciApart
