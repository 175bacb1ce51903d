/-
  The law PctReady holds for every input: for every text and every number of a set the call returns true and leaves what was there as it was. No condition.
-/
import Derived.Test.YtpbcienekjnelaaRows
import Derived.WalkKit
import Derived.ProofKit
import Derived.OpenShut
import Derived.ShutString
import Derived.Test.YtpbcienekjnelaaPAwake
namespace Go.Proofs.Ytpbcienekjnelaa.pctReady
open Go.ChangeShapes Go.WideShapes Go.ChangeAt Go.RowKit
open Go.ChangeMaps (open_string shut_string)
open Go.Shelf
open Go.Proofs.Ytpbcienekjnelaa.Pct
set_option linter.unusedSimpArgs false
set_option linter.unusedVariables false      -- a walk need not use every 'w<i>' (that an integer argument fits its kind)

theorem own : ownKnob Try.prog.godebug = none := by kernel_rfl

set_option maxRecDepth 100000 in
set_option maxHeartbeats 4000000 in
theorem walkOut (s : ByteArray) (set : Int) (h : decide ((600 : Int) < s.size) = true) (w : World) :
    Calls Try.prog 4 #[.string s, .int .i64 set] w fun e w' => e = .returned (.bool true) ∧ Below w.heap.size w w' := by
  go_enter Try.func4, Try.ntmps4
  go_wp2_with fail
  refine (awake_at (Below.refl _ w)).mono ?_
  rintro e u ⟨rfl, hB⟩
  go_wp2_with fail
  go_ret
  exact ⟨rfl, hB⟩

set_option maxRecDepth 100000 in
set_option maxHeartbeats 4000000 in
theorem walkIn (s : ByteArray) (set : Int) (h : decide ((600 : Int) < s.size) = false) (hs : Hid (s.size ≤ 600)) (x : ByteArray) (hx : Hid ((⟨(encode set s.data.toList).toArray⟩ : ByteArray) = x)) (hxx : Hid ((⟨(encode set x.data.toList).toArray⟩ : ByteArray) = x)) (hr : Hid (readyB set x.data.toList = true))
    (b : Bool) (hb : Hid (readyB set s.data.toList = b)) (hb2 : (x.toList == s.toList) = b) (l0 : s.size ≤ x.size) (l1 : x.size ≤ 1800) (l3 : decide ((x.size : Int) ≤ 3 * s.size) = true) (w : World) :
    Calls Try.prog 4 #[.string s, .int .i64 set] w fun e w' => e = .returned (.bool true) ∧ Below w.heap.size w w' := by
  have hsi : s.size ≤ 600 := hs.out
  cases b
  all_goals
    go_enter Try.func4, Try.ntmps4
    go_wp2_with fail
    refine (awake_at (Below.refl _ w)).mono ?_
    rintro e u ⟨rfl, hB⟩
    go_wp2_with fail
    refine (encode_at s (by omega) set x hx.out hB).mono ?_
    rintro e u2 ⟨rfl, hB2⟩
    go_wp2_with fail
    refine (ready_at x (by unfold maxLen; omega) set true hr.out hB2).mono ?_
    rintro e u3 ⟨rfl, hB3⟩
    go_wp2_with fail
    refine (ready_at s (by unfold maxLen; omega) set _ hb.out hB3).mono ?_
    rintro e u4 ⟨rfl, hB4⟩
    go_wp2_with fail
    refine (encode_at x (by omega) set x hxx.out hB4).mono ?_
    rintro e u5 ⟨rfl, hB5⟩
    go_wp2
    go_ret
    exact ⟨rfl, hB5⟩

theorem walk (a0 : ByteArray) (a1 : Int) (w0 : a0.size ≤ maxLen) (w1 : (Lit.int .i64 a1).wf = true) (w : World) :
    Calls Try.prog 4 #[.string a0, .int .i64 a1] w fun e w' => e = .returned (.bool true) ∧ Below w.heap.size w w' := by
  cases h : decide ((600 : Int) < a0.size)
  · have hs : a0.size ≤ 600 := by simp at h; omega
    have l1 := encode_len a1 a0.data.toList
    have l2 := encode_ge a1 a0.data.toList
    have z0 : a0.data.toList.length = a0.size := rfl
    have z1 : (⟨(encode a1 a0.data.toList).toArray⟩ : ByteArray).size = (encode a1 a0.data.toList).length := rfl
    refine walkIn a0 a1 h (Lib.hid hs) _ (Lib.hid rfl) (Lib.hid ?_) (Lib.hid (ready_encode _ _)) _ (Lib.hid rfl) ?_ (by omega) (by omega) (by simp; omega) w
    · exact congrArg (fun l : List UInt8 => (⟨l.toArray⟩ : ByteArray)) (encode_ready a1 _ (ready_encode a1 _))
    · rw [ready_iff, ByteArray.toList_eq, ByteArray.toList_eq]
  · exact walkOut a0 a1 h w

/-! ### The row's step -/
set_option maxRecDepth 100000 in
theorem lifted (os : Os) (started : os.Started) (H : Type) (enc : TypeId × Value → H) :
    ReturnsInHanded {} Try.checked os 4 .any (Rows.pctReadySpec.pre6 enc Try.prog Try.f4 Rows.pctReadyRow.domain false) (Rows.pctReadySpec.post enc Try.prog Try.f4 false true false false) := by
  refine returnsInHanded_of_change (C := Try.checked) own started (by kernel_rfl) Try.func4
    (ChangeSpec.witness6 (enc := enc) (C := Try.checked) false ⟨#[], #[.string ByteArray.empty, .int .i64 0], []⟩ 8 (by kernel_rfl) (by kernel_rfl) (by kernel_rfl) (by kernel_rfl)) ?_
  intro W base args ds gs before hval0 hW hcnd _
  have hval : ∀ (j : Nat) t v, Try.f4.params[j]? = some t → args[j]? = some v → Value.okWide Try.prog W .any base t v := hval0
  have hW' := hW
  obtain ⟨p, q, hA0, hV, rfl, hfz, hnd⟩ := hW
  have hA : DataW.TrodAll enc Try.prog W 0 (fun _ => true) true Try.f4.params.toList args.toList ds p := hA0
  rw [Try.params4] at hA hval
  obtain ⟨v0, vs0, d0, ds0, p0, q0, hargs, rfl, rfl, h0, r0⟩ := trodAll_cons hA
  obtain ⟨v1, vs1, d1, ds1, p1, q1, rfl, rfl, rfl, h1, r1⟩ := trodAll_cons r0
  obtain ⟨rfl, rfl, rfl⟩ := trodAll_nil r1
  obtain rfl : args = #[v0, v1] := by cases args; simp_all
  obtain ⟨rfl, rfl⟩ := trodVars_none hV
  obtain ⟨a0, rfl, rfl, rfl, w0⟩ := open_string Try.underlying9 (hval 0 9 v0 rfl rfl) h0
  obtain ⟨a1, rfl, rfl, rfl, w1⟩ := open_int Try.underlying3 (hval 1 3 v1 rfl rfl) h1
  clear hA0 hval0
  simp only [List.append_nil] at hW'
  refine (walk a0 a1 w0 w1 W).mono fun e W' ⟨he, hg⟩ => ?_
  subst he
  exact ⟨_, rfl, _, _, _, [], _, [], hW', trodAll_mk1 (shut_bool Try.underlying4 _), (trodAll_cons_mk (shut_string Try.underlying9 w0) (trodAll_cons_mk (shut_int Try.underlying3 w1) trodAll_mk0)), rfl, hg.frame _, fun h => by cases h⟩

theorem over : Rows.pctReadyRow.holds Try.pinned (OpenSpec.ofChange Rows.pctReadySpec) :=
  OpenClaim.holds_of_wide 4 Try.f4 rfl rfl rfl rfl rfl rfl rfl ⟨rfl, rfl, rfl, rfl, rfl⟩ rfl rfl rfl rfl rfl (by kernel_rfl) Try.func4 (by kernel_rfl)
    (of_decide_eq_true (by kernel_rfl)) (by unfold Func.isWrapper; first | (rw [if_pos (by decide +kernel)]; kernel_rfl) | (rw [if_neg (by decide +kernel)]; exact ⟨rfl, rfl⟩))
    (fun os started H enc _ => lifted os started H enc)

/-- The statement. -/
theorem proved : Rows.PctReadySaid :=
  over
#print axioms proved
end Go.Proofs.Ytpbcienekjnelaa.pctReady
