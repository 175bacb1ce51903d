/-
  The law IsoTells holds for every input: for every text the call returns true and leaves what was there as it was. No condition.
-/
import Derived.Test.YtkhpbcdjmcpgdaaRows
import Derived.WalkKit
import Derived.ProofKit
import Derived.OpenShut
import Derived.ShutString
import Derived.Test.YtkhpbcdjmcpgdaaIAwake
namespace Go.Proofs.Ytkhpbcdjmcpgdaa.isoTells
open Go.ChangeShapes Go.WideShapes Go.ChangeAt Go.RowKit
open Go.ChangeMaps (open_string shut_string)
open Go.Shelf
open Go.Proofs.Ytkhpbcdjmcpgdaa.Iso
set_option linter.unusedSimpArgs false
set_option linter.unusedVariables false      -- a walk need not use every 'w<i>' (that an integer argument fits its kind)

theorem own : ownKnob Try.prog.godebug = none := by kernel_rfl

set_option maxRecDepth 100000 in
set_option maxHeartbeats 4000000 in
theorem walkOut (s : ByteArray) (h : decide ((600 : Int) < s.size) = true) (w : World) :
    Calls Try.prog 3 #[.string s] w fun e w' => e = .returned (.bool true) ∧ Below w.heap.size w w' := by
  go_enter Try.func3, Try.ntmps3
  go_wp2_with fail
  refine (awake_at (Below.refl _ w)).mono ?_
  rintro e u ⟨rfl, hB⟩
  go_wp2_with fail
  go_ret
  exact ⟨rfl, hB⟩

set_option maxRecDepth 100000 in
set_option maxHeartbeats 4000000 in
theorem walkIn (s : ByteArray) (h : decide ((600 : Int) < s.size) = false) (hs : Hid (s.size ≤ 600)) (x y : ByteArray) (hx : Hid ((⟨(wide s.data.toList).toArray⟩ : ByteArray) = x)) (hy : Hid (narT s.data.toList = y)) (b p : Bool) (hb : Hid (narB s.data.toList = b)) (hp : Hid (plainB s.data.toList = p))
    (n : Int) (hn : Hid ((count s.data.toList : Int) = n)) (w : World) :
    Calls Try.prog 3 #[.string s] w fun e w' => e = .returned (.bool true) ∧ Below w.heap.size w w' := by
  have hs6 : s.size ≤ 1000000 := by have := hs.out; omega
  have hsm : s.size ≤ maxLen := by unfold maxLen; omega
  have H6 := Lib.hid hs6
  have HM := Lib.hid hsm
  clear hs6 hsm
  go_enter Try.func3, Try.ntmps3
  go_wp2_with fail
  refine (awake_at (Below.refl _ w)).mono ?_
  rintro e u ⟨rfl, hB⟩
  go_wp2_with fail
  refine (narrow_at s H6.out y b hy.out hb.out hB).mono ?_
  rintro e u1 ⟨rfl, hB1⟩
  go_wp2_with fail
  refine (refNarrow_at s H6.out y b hy.out hb.out hB1).mono ?_
  rintro e u2 ⟨rfl, hB2⟩
  go_wp2_with fail
  refine (refPlain_at s HM.out p hp.out hB2).mono ?_
  rintro e u3 ⟨rfl, hB3⟩
  go_wp2_with fail
  refine (wide_at s H6.out x hx.out hB3).mono ?_
  rintro e u4 ⟨rfl, hB4⟩
  go_wp2_with fail
  refine (refWide_at s H6.out x hx.out hB4).mono ?_
  rintro e u5 ⟨rfl, hB5⟩
  go_wp2_with fail
  refine (count_at s HM.out n hn.out hB5).mono ?_
  rintro e u6 ⟨rfl, hB6⟩
  go_wp2_with fail
  refine (refCount_at s HM.out n hn.out hB6).mono ?_
  rintro e u7 ⟨rfl, hB7⟩
  go_wp2_with fail
  refine (plain_at s HM.out p hp.out hB7).mono ?_
  rintro e u8 ⟨rfl, hB8⟩
  go_wp2
  go_ret
  exact ⟨rfl, hB8⟩

theorem walk (a0 : ByteArray) (w0 : a0.size ≤ maxLen) (w : World) :
    Calls Try.prog 3 #[.string a0] w fun e w' => e = .returned (.bool true) ∧ Below w.heap.size w w' := by
  cases h : decide ((600 : Int) < a0.size)
  · exact walkIn a0 h (Lib.hid (by simp at h; omega)) _ _ (Lib.hid rfl) (Lib.hid rfl) _ _ (Lib.hid rfl) (Lib.hid rfl) _ (Lib.hid rfl) w
  · exact walkOut a0 h w

/-! ### The row's step -/
set_option maxRecDepth 100000 in
theorem lifted (os : Os) (started : os.Started) (H : Type) (enc : TypeId × Value → H) :
    ReturnsInHanded {} Try.checked os 3 .any (Rows.isoTellsSpec.pre6 enc Try.prog Try.f3 Rows.isoTellsRow.domain false) (Rows.isoTellsSpec.post enc Try.prog Try.f3 false true false false) := by
  refine returnsInHanded_of_change (C := Try.checked) own started (by kernel_rfl) Try.func3
    (ChangeSpec.witness6 (enc := enc) (C := Try.checked) false ⟨#[], #[.string ByteArray.empty], []⟩ 8 (by kernel_rfl) (by kernel_rfl) (by kernel_rfl) (by kernel_rfl)) ?_
  intro W base args ds gs before hval0 hW hcnd _
  have hval : ∀ (j : Nat) t v, Try.f3.params[j]? = some t → args[j]? = some v → Value.okWide Try.prog W .any base t v := hval0
  have hW' := hW
  obtain ⟨p, q, hA0, hV, rfl, hfz, hnd⟩ := hW
  have hA : DataW.TrodAll enc Try.prog W 0 (fun _ => true) true Try.f3.params.toList args.toList ds p := hA0
  rw [Try.params3] at hA hval
  obtain ⟨v0, vs0, d0, ds0, p0, q0, hargs, rfl, rfl, h0, r0⟩ := trodAll_cons hA
  obtain ⟨rfl, rfl, rfl⟩ := trodAll_nil r0
  obtain rfl : args = #[v0] := by cases args; simp_all
  obtain ⟨rfl, rfl⟩ := trodVars_none hV
  obtain ⟨a0, rfl, rfl, rfl, w0⟩ := open_string Try.underlying9 (hval 0 9 v0 rfl rfl) h0
  clear hA0 hval0
  simp only [List.append_nil] at hW'
  refine (walk a0 w0 W).mono fun e W' ⟨he, hg⟩ => ?_
  subst he
  exact ⟨_, rfl, _, _, _, [], _, [], hW', trodAll_mk1 (shut_bool Try.underlying4 _), (trodAll_cons_mk (shut_string Try.underlying9 w0) trodAll_mk0), rfl, hg.frame _, fun h => by cases h⟩

theorem over : Rows.isoTellsRow.holds Try.pinned (OpenSpec.ofChange Rows.isoTellsSpec) :=
  OpenClaim.holds_of_wide 3 Try.f3 rfl rfl rfl rfl rfl rfl rfl ⟨rfl, rfl, rfl, rfl, rfl⟩ rfl rfl rfl rfl rfl (by kernel_rfl) Try.func3 (by kernel_rfl)
    (of_decide_eq_true (by kernel_rfl)) (by unfold Func.isWrapper; first | (rw [if_pos (by decide +kernel)]; kernel_rfl) | (rw [if_neg (by decide +kernel)]; exact ⟨rfl, rfl⟩))
    (fun os started H enc _ => lifted os started H enc)

/-- The statement. -/
theorem proved : Rows.IsoTellsSaid :=
  over
#print axioms proved
end Go.Proofs.Ytkhpbcdjmcpgdaa.isoTells
