/-
  The law IsoPlain holds for every input: for every text the call returns true and leaves what was there as it was. No condition.
-/
import Derived.Test.YtkhpbcdjmcpgdaaRows
import Derived.WalkKit
import Derived.ProofKit
import Derived.OpenShut
import Derived.ShutString
import Derived.Test.YtkhpbcdjmcpgdaaIAwake
namespace Go.Proofs.Ytkhpbcdjmcpgdaa.isoPlain
open Go.ChangeShapes Go.WideShapes Go.ChangeAt Go.RowKit
open Go.ChangeMaps (open_string shut_string)
open Go.Shelf
open Go.Proofs.Ytkhpbcdjmcpgdaa.Iso
set_option linter.unusedSimpArgs false
set_option linter.unusedVariables false      -- a walk need not use every 'w<i>' (that an integer argument fits its kind)

theorem own : ownKnob Try.prog.godebug = none := by kernel_rfl

set_option maxRecDepth 100000 in
set_option maxHeartbeats 4000000 in
theorem walkOut (s : ByteArray) (h : decide ((600 : Int) < s.size) = true) (w : World) :
    Calls Try.prog 5 #[.string s] w fun e w' => e = .returned (.bool true) ∧ Below w.heap.size w w' := by
  go_enter Try.func5, Try.ntmps5
  go_wp2_with fail
  refine (awake_at (Below.refl _ w)).mono ?_
  rintro e u ⟨rfl, hB⟩
  go_wp2_with fail
  go_ret
  exact ⟨rfl, hB⟩

set_option maxRecDepth 100000 in
set_option maxHeartbeats 4000000 in
theorem walkYes (s : ByteArray) (h : decide ((600 : Int) < s.size) = false) (hs : s.size ≤ 600) (hx : Hid ((⟨(wide s.data.toList).toArray⟩ : ByteArray) = s)) (hp : Hid (plainB s.data.toList = true))
    (hn1 : Hid (narT s.data.toList = s)) (hn2 : Hid (narB s.data.toList = true)) (hc : Hid ((count s.data.toList : Int) = (s.size : Int))) (w : World) :
    Calls Try.prog 5 #[.string s] w fun e w' => e = .returned (.bool true) ∧ Below w.heap.size w w' := by
  have q : decide ((s.size : Int) ≤ 2 * (s.size : Int)) = true := by simp; omega
  go_enter Try.func5, Try.ntmps5
  go_wp2_with fail
  refine (awake_at (Below.refl _ w)).mono ?_
  rintro e u ⟨rfl, hB⟩
  go_wp2_with fail
  refine (wide_at s (by omega) s hx.out hB).mono ?_
  rintro e u1 ⟨rfl, hB1⟩
  go_wp2_with fail
  refine (narrow_at s (by omega) s true hn1.out hn2.out hB1).mono ?_
  rintro e u2 ⟨rfl, hB2⟩
  go_wp2_with fail
  refine (plain_at s (by unfold maxLen; omega) true hp.out hB2).mono ?_
  rintro e u3 ⟨rfl, hB3⟩
  go_wp2_with fail
  refine (plain_at s (by unfold maxLen; omega) true hp.out hB3).mono ?_
  rintro e u4 ⟨rfl, hB4⟩
  go_wp2_with fail
  refine (count_at s (by unfold maxLen; omega) _ hc.out hB4).mono ?_
  rintro e u5 ⟨rfl, hB5⟩
  go_wp2
  go_ret
  exact ⟨rfl, hB5⟩

set_option maxRecDepth 100000 in
set_option maxHeartbeats 4000000 in
theorem walkNo (s : ByteArray) (h : decide ((600 : Int) < s.size) = false) (hs : s.size ≤ 600) (x y : ByteArray) (b : Bool) (hx : Hid ((⟨(wide s.data.toList).toArray⟩ : ByteArray) = x)) (hp : Hid (plainB s.data.toList = false)) (hp2 : Hid (plainB x.data.toList = false))
    (hy : Hid (narT s.data.toList = y)) (hb : Hid (narB s.data.toList = b)) (hne : (x.toList == s.toList) = false) (l1 : s.size ≤ x.size) (l2 : x.size ≤ 2 * s.size) (w : World) :
    Calls Try.prog 5 #[.string s] w fun e w' => e = .returned (.bool true) ∧ Below w.heap.size w w' := by
  have q : decide ((x.size : Int) ≤ 2 * (s.size : Int)) = true := by simp; omega
  go_enter Try.func5, Try.ntmps5
  go_wp2_with fail
  refine (awake_at (Below.refl _ w)).mono ?_
  rintro e u ⟨rfl, hB⟩
  go_wp2_with fail
  refine (wide_at s (by omega) x hx.out hB).mono ?_
  rintro e u1 ⟨rfl, hB1⟩
  go_wp2_with fail
  refine (narrow_at s (by omega) y b hy.out hb.out hB1).mono ?_
  rintro e u2 ⟨rfl, hB2⟩
  go_wp2_with fail
  refine (plain_at s (by unfold maxLen; omega) false hp.out hB2).mono ?_
  rintro e u3 ⟨rfl, hB3⟩
  go_wp2_with fail
  refine (plain_at x (by unfold maxLen; omega) false hp2.out hB3).mono ?_
  rintro e u4 ⟨rfl, hB4⟩
  go_wp2
  go_ret
  exact ⟨rfl, hB4⟩

theorem walk (a0 : ByteArray) (w0 : a0.size ≤ maxLen) (w : World) :
    Calls Try.prog 5 #[.string a0] w fun e w' => e = .returned (.bool true) ∧ Below w.heap.size w w' := by
  cases h : decide ((600 : Int) < a0.size)
  · have hs : a0.size ≤ 600 := by simp at h; omega
    have hwl := wide_len a0.data.toList
    cases hp : plainB a0.data.toList
    · have ho := wide_other hp
      refine walkNo a0 h hs ⟨(wide a0.data.toList).toArray⟩ _ _ (Lib.hid rfl) (Lib.hid hp) (Lib.hid ho.2) (Lib.hid rfl) (Lib.hid rfl) ?_ ?_ ?_ w
      · rw [ByteArray.toList_eq, ByteArray.toList_eq]
        simpa using ho.1
      · rw [size_of]; exact hwl.1
      · rw [size_of]; exact hwl.2
    · exact walkYes a0 h hs (Lib.hid ((congrArg (fun l : List UInt8 => (⟨l.toArray⟩ : ByteArray)) (wide_plain hp)).trans (text_of a0))) (Lib.hid hp) (Lib.hid ((narT_some (narrow_plain hp)).trans (text_of a0))) (Lib.hid (narB_some (narrow_plain hp))) (Lib.hid (by rw [count_plain0 hp]; rfl)) w
  · exact walkOut a0 h w

/-! ### The row's step -/
set_option maxRecDepth 100000 in
theorem lifted (os : Os) (started : os.Started) (H : Type) (enc : TypeId × Value → H) :
    ReturnsInHanded {} Try.checked os 5 .any (Rows.isoPlainSpec.pre6 enc Try.prog Try.f5 Rows.isoPlainRow.domain false) (Rows.isoPlainSpec.post enc Try.prog Try.f5 false true false false) := by
  refine returnsInHanded_of_change (C := Try.checked) own started (by kernel_rfl) Try.func5
    (ChangeSpec.witness6 (enc := enc) (C := Try.checked) false ⟨#[], #[.string ByteArray.empty], []⟩ 8 (by kernel_rfl) (by kernel_rfl) (by kernel_rfl) (by kernel_rfl)) ?_
  intro W base args ds gs before hval0 hW hcnd _
  have hval : ∀ (j : Nat) t v, Try.f5.params[j]? = some t → args[j]? = some v → Value.okWide Try.prog W .any base t v := hval0
  have hW' := hW
  obtain ⟨p, q, hA0, hV, rfl, hfz, hnd⟩ := hW
  have hA : DataW.TrodAll enc Try.prog W 0 (fun _ => true) true Try.f5.params.toList args.toList ds p := hA0
  rw [Try.params5] at hA hval
  obtain ⟨v0, vs0, d0, ds0, p0, q0, hargs, rfl, rfl, h0, r0⟩ := trodAll_cons hA
  obtain ⟨rfl, rfl, rfl⟩ := trodAll_nil r0
  obtain rfl : args = #[v0] := by cases args; simp_all
  obtain ⟨rfl, rfl⟩ := trodVars_none hV
  obtain ⟨a0, rfl, rfl, rfl, w0⟩ := open_string Try.underlying9 (hval 0 9 v0 rfl rfl) h0
  clear hA0 hval0
  simp only [List.append_nil] at hW'
  refine (walk a0 w0 W).mono fun e W' ⟨he, hg⟩ => ?_
  subst he
  exact ⟨_, rfl, _, _, _, [], _, [], hW', trodAll_mk1 (shut_bool Try.underlying4 _), (trodAll_cons_mk (shut_string Try.underlying9 w0) trodAll_mk0), rfl, hg.frame _, fun h => by cases h⟩

theorem over : Rows.isoPlainRow.holds Try.pinned (OpenSpec.ofChange Rows.isoPlainSpec) :=
  OpenClaim.holds_of_wide 5 Try.f5 rfl rfl rfl rfl rfl rfl rfl ⟨rfl, rfl, rfl, rfl, rfl⟩ rfl rfl rfl rfl rfl (by kernel_rfl) Try.func5 (by kernel_rfl)
    (of_decide_eq_true (by kernel_rfl)) (by unfold Func.isWrapper; first | (rw [if_pos (by decide +kernel)]; kernel_rfl) | (rw [if_neg (by decide +kernel)]; exact ⟨rfl, rfl⟩))
    (fun os started H enc _ => lifted os started H enc)

/-- The statement. -/
theorem proved : Rows.IsoPlainSaid :=
  over
#print axioms proved
end Go.Proofs.Ytkhpbcdjmcpgdaa.isoPlain
