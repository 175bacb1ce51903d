/-
  The law IsoBack holds for every input: for every text the call returns true and leaves what was there as it was. No condition.
-/
import Derived.Test.YtkhpbcdjmcpgdaaRows
import Derived.WalkKit
import Derived.ProofKit
import Derived.OpenShut
import Derived.ShutString
import Derived.Test.YtkhpbcdjmcpgdaaIAwake
namespace Go.Proofs.Ytkhpbcdjmcpgdaa.isoBack
open Go.ChangeShapes Go.WideShapes Go.ChangeAt Go.RowKit
open Go.ChangeMaps (open_string shut_string)
open Go.Shelf
open Go.Proofs.Ytkhpbcdjmcpgdaa.Iso
set_option linter.unusedSimpArgs false
set_option linter.unusedVariables false      -- a walk need not use every 'w<i>' (that an integer argument fits its kind)

theorem own : ownKnob Try.prog.godebug = none := by kernel_rfl

set_option maxRecDepth 100000 in
set_option maxHeartbeats 4000000 in
theorem walkOut (s : ByteArray) (h : decide ((600 : Int) < s.size) = true) (w : World) :
    Calls Try.prog 4 #[.string s] w fun e w' => e = .returned (.bool true) ∧ Below w.heap.size w w' := by
  go_enter Try.func4, Try.ntmps4
  go_wp2_with fail
  refine (awake_at (Below.refl _ w)).mono ?_
  rintro e u ⟨rfl, hB⟩
  go_wp2_with fail
  go_ret
  exact ⟨rfl, hB⟩

set_option maxRecDepth 100000 in
set_option maxHeartbeats 4000000 in
theorem walkNo (s : ByteArray) (h : decide ((600 : Int) < s.size) = false) (hs : Hid (s.size ≤ 600)) (x y : ByteArray) (hx : Hid ((⟨(wide s.data.toList).toArray⟩ : ByteArray) = x)) (hxs : Hid (x.size ≤ 1200))
    (hn1 : Hid (narT x.data.toList = s)) (hn2 : Hid (narB x.data.toList = true)) (hc : Hid ((count x.data.toList : Int) = (s.size : Int))) (hy : Hid (narT s.data.toList = y)) (hb : Hid (narB s.data.toList = false)) (w : World) :
    Calls Try.prog 4 #[.string s] w fun e w' => e = .returned (.bool true) ∧ Below w.heap.size w w' := by
  go_enter Try.func4, Try.ntmps4
  go_wp2_with fail
  refine (awake_at (Below.refl _ w)).mono ?_
  rintro e u ⟨rfl, hB⟩
  go_wp2_with fail
  refine (wide_at s (by have := hs.out; omega) x hx.out hB).mono ?_
  rintro e u1 ⟨rfl, hB1⟩
  go_wp2_with fail
  refine (narrow_at x (by have := hxs.out; omega) s true hn1.out hn2.out hB1).mono ?_
  rintro e u2 ⟨rfl, hB2⟩
  go_wp2_with fail
  refine (narrow_at s (by have := hs.out; omega) y false hy.out hb.out hB2).mono ?_
  rintro e u3 ⟨rfl, hB3⟩
  go_wp2_with fail
  refine (count_at x (by have := hxs.out; unfold maxLen; omega) _ hc.out hB3).mono ?_
  rintro e u4 ⟨rfl, hB4⟩
  go_wp2
  go_ret
  exact ⟨rfl, hB4⟩

set_option maxRecDepth 100000 in
set_option maxHeartbeats 4000000 in
theorem walkYes (s : ByteArray) (h : decide ((600 : Int) < s.size) = false) (hs : Hid (s.size ≤ 600)) (x y : ByteArray) (hx : Hid ((⟨(wide s.data.toList).toArray⟩ : ByteArray) = x)) (hxs : Hid (x.size ≤ 1200))
    (hn1 : Hid (narT x.data.toList = s)) (hn2 : Hid (narB x.data.toList = true)) (hc : Hid ((count x.data.toList : Int) = (s.size : Int))) (hy : Hid (narT s.data.toList = y)) (hb : Hid (narB s.data.toList = true))
    (hys : Hid (y.size ≤ 600)) (hw : Hid ((⟨(wide y.data.toList).toArray⟩ : ByteArray) = s)) (hc2 : Hid ((count s.data.toList : Int) = (y.size : Int))) (w : World) :
    Calls Try.prog 4 #[.string s] w fun e w' => e = .returned (.bool true) ∧ Below w.heap.size w w' := by
  go_enter Try.func4, Try.ntmps4
  go_wp2_with fail
  refine (awake_at (Below.refl _ w)).mono ?_
  rintro e u ⟨rfl, hB⟩
  go_wp2_with fail
  refine (wide_at s (by have := hs.out; omega) x hx.out hB).mono ?_
  rintro e u1 ⟨rfl, hB1⟩
  go_wp2_with fail
  refine (narrow_at x (by have := hxs.out; omega) s true hn1.out hn2.out hB1).mono ?_
  rintro e u2 ⟨rfl, hB2⟩
  go_wp2_with fail
  refine (narrow_at s (by have := hs.out; omega) y true hy.out hb.out hB2).mono ?_
  rintro e u3 ⟨rfl, hB3⟩
  go_wp2_with fail
  refine (count_at x (by have := hxs.out; unfold maxLen; omega) _ hc.out hB3).mono ?_
  rintro e u4 ⟨rfl, hB4⟩
  go_wp2_with fail
  refine (wide_at y (by have := hys.out; omega) s hw.out hB4).mono ?_
  rintro e u5 ⟨rfl, hB5⟩
  go_wp2_with fail
  refine (count_at s (by have := hs.out; unfold maxLen; omega) _ hc2.out hB5).mono ?_
  rintro e u6 ⟨rfl, hB6⟩
  go_wp2
  go_ret
  exact ⟨rfl, hB6⟩

theorem walk (a0 : ByteArray) (w0 : a0.size ≤ maxLen) (w : World) :
    Calls Try.prog 4 #[.string a0] w fun e w' => e = .returned (.bool true) ∧ Below w.heap.size w w' := by
  cases h : decide ((600 : Int) < a0.size)
  · have hs : a0.size ≤ 600 := by simp at h; omega
    have hl : a0.data.toList.length = a0.size := rfl
    have hwl := wide_len a0.data.toList
    have hxs : (⟨(wide a0.data.toList).toArray⟩ : ByteArray).size ≤ 1200 := by rw [size_of]; omega
    have hnw := narrow_wide0 a0.data.toList
    have hc : ((count (wide a0.data.toList) : Nat) : Int) = (a0.size : Int) := by rw [hnw.2]; rfl
    have hn1 : narT (wide a0.data.toList) = a0 := (narT_some hnw.1).trans (text_of a0)
    cases hn : narrow a0.data.toList with
    | none => exact walkNo a0 h (Lib.hid hs) _ _ (Lib.hid rfl) (Lib.hid hxs) (Lib.hid hn1) (Lib.hid (narB_some hnw.1)) (Lib.hid hc) (Lib.hid rfl) (Lib.hid (narB_none hn)) w
    | some y =>
      have e1 := narrow_some hn
      have e2 := wide_len y
      have hys : (⟨y.toArray⟩ : ByteArray).size ≤ 600 := by rw [size_of]; rw [← e1] at e2; omega
      have hw : (⟨(wide (⟨y.toArray⟩ : ByteArray).data.toList).toArray⟩ : ByteArray) = a0 := (congrArg (fun l : List UInt8 => (⟨l.toArray⟩ : ByteArray)) e1.symm).trans (text_of a0)
      have hc2 : ((count a0.data.toList : Nat) : Int) = ((⟨y.toArray⟩ : ByteArray).size : Int) := by rw [count_narrow hn, size_of]
      exact walkYes a0 h (Lib.hid hs) _ ⟨y.toArray⟩ (Lib.hid rfl) (Lib.hid hxs) (Lib.hid hn1) (Lib.hid (narB_some hnw.1)) (Lib.hid hc) (Lib.hid (narT_some hn)) (Lib.hid (narB_some hn)) (Lib.hid hys) (Lib.hid hw) (Lib.hid hc2) w
  · exact walkOut a0 h w

/-! ### The row's step -/
set_option maxRecDepth 100000 in
theorem lifted (os : Os) (started : os.Started) (H : Type) (enc : TypeId × Value → H) :
    ReturnsInHanded {} Try.checked os 4 .any (Rows.isoBackSpec.pre6 enc Try.prog Try.f4 Rows.isoBackRow.domain false) (Rows.isoBackSpec.post enc Try.prog Try.f4 false true false false) := by
  refine returnsInHanded_of_change (C := Try.checked) own started (by kernel_rfl) Try.func4
    (ChangeSpec.witness6 (enc := enc) (C := Try.checked) false ⟨#[], #[.string ByteArray.empty], []⟩ 8 (by kernel_rfl) (by kernel_rfl) (by kernel_rfl) (by kernel_rfl)) ?_
  intro W base args ds gs before hval0 hW hcnd _
  have hval : ∀ (j : Nat) t v, Try.f4.params[j]? = some t → args[j]? = some v → Value.okWide Try.prog W .any base t v := hval0
  have hW' := hW
  obtain ⟨p, q, hA0, hV, rfl, hfz, hnd⟩ := hW
  have hA : DataW.TrodAll enc Try.prog W 0 (fun _ => true) true Try.f4.params.toList args.toList ds p := hA0
  rw [Try.params4] at hA hval
  obtain ⟨v0, vs0, d0, ds0, p0, q0, hargs, rfl, rfl, h0, r0⟩ := trodAll_cons hA
  obtain ⟨rfl, rfl, rfl⟩ := trodAll_nil r0
  obtain rfl : args = #[v0] := by cases args; simp_all
  obtain ⟨rfl, rfl⟩ := trodVars_none hV
  obtain ⟨a0, rfl, rfl, rfl, w0⟩ := open_string Try.underlying9 (hval 0 9 v0 rfl rfl) h0
  clear hA0 hval0
  simp only [List.append_nil] at hW'
  refine (walk a0 w0 W).mono fun e W' ⟨he, hg⟩ => ?_
  subst he
  exact ⟨_, rfl, _, _, _, [], _, [], hW', trodAll_mk1 (shut_bool Try.underlying4 _), (trodAll_cons_mk (shut_string Try.underlying9 w0) trodAll_mk0), rfl, hg.frame _, fun h => by cases h⟩

theorem over : Rows.isoBackRow.holds Try.pinned (OpenSpec.ofChange Rows.isoBackSpec) :=
  OpenClaim.holds_of_wide 4 Try.f4 rfl rfl rfl rfl rfl rfl rfl ⟨rfl, rfl, rfl, rfl, rfl⟩ rfl rfl rfl rfl rfl (by kernel_rfl) Try.func4 (by kernel_rfl)
    (of_decide_eq_true (by kernel_rfl)) (by unfold Func.isWrapper; first | (rw [if_pos (by decide +kernel)]; kernel_rfl) | (rw [if_neg (by decide +kernel)]; exact ⟨rfl, rfl⟩))
    (fun os started H enc _ => lifted os started H enc)

/-- The statement. -/
theorem proved : Rows.IsoBackSaid :=
  over
#print axioms proved
end Go.Proofs.Ytkhpbcdjmcpgdaa.isoBack
