/-
  The law IsoParts holds for every input: for every two texts the call returns true and leaves what was there as it was. No condition.
-/
import Derived.Test.YtkhpbcdjmcpgdaaRows
import Derived.WalkKit
import Derived.ProofKit
import Derived.OpenShut
import Derived.ShutString
import Derived.Test.YtkhpbcdjmcpgdaaIAwake
namespace Go.Proofs.Ytkhpbcdjmcpgdaa.isoParts
open Go.ChangeShapes Go.WideShapes Go.ChangeAt Go.RowKit
open Go.ChangeMaps (open_string shut_string)
open Go.Shelf
open Go.Proofs.Ytkhpbcdjmcpgdaa.Iso
set_option linter.unusedSimpArgs false
set_option linter.unusedVariables false      -- a walk need not use every 'w<i>' (that an integer argument fits its kind)

theorem own : ownKnob Try.prog.godebug = none := by kernel_rfl

set_option maxRecDepth 100000 in
set_option maxHeartbeats 4000000 in
theorem walkOut (a b : ByteArray) (h : decide ((300 : Int) < a.size) = true ∨ (decide ((300 : Int) < a.size) = false ∧ decide ((300 : Int) < b.size) = true)) (w : World) :
    Calls Try.prog 6 #[.string a, .string b] w fun e w' => e = .returned (.bool true) ∧ Below w.heap.size w w' := by
  rcases h with h | ⟨h, h2⟩
  all_goals
    go_enter Try.func6, Try.ntmps6
    go_wp2_with fail
    refine (awake_at (Below.refl _ w)).mono ?_
    rintro e u ⟨rfl, hB⟩
    go_wp2_with fail
    go_ret
    exact ⟨rfl, hB⟩

set_option maxRecDepth 100000 in
set_option maxHeartbeats 4000000 in
theorem walkIn (a b : ByteArray) (h : decide ((300 : Int) < a.size) = false) (h2 : decide ((300 : Int) < b.size) = false) (ha : a.size ≤ 300) (hb : b.size ≤ 300) (lab : (a ++ b).size ≤ 600)
    (x y z xab xa xb : ByteArray) (one two both : Bool) (HX : Hid (narT a.data.toList = x)) (H1 : Hid (narB a.data.toList = one)) (HY : Hid (narT b.data.toList = y)) (H2 : Hid (narB b.data.toList = two)) (HZ : Hid (narT (a ++ b).data.toList = z)) (H3 : Hid (narB (a ++ b).data.toList = both))
    (HAB : Hid ((⟨(wide (a ++ b).data.toList).toArray⟩ : ByteArray) = xab)) (HA : Hid ((⟨(wide a.data.toList).toArray⟩ : ByteArray) = xa)) (HB : Hid ((⟨(wide b.data.toList).toArray⟩ : ByteArray) = xb))
    (lxa : xa.size ≤ 600) (lxb : xb.size ≤ 600) (lx : x.size ≤ 300) (ly : y.size ≤ 300) (ex : (xab.toList == (xa ++ xb).toList) = true)
    (hway : one = false ∨ (one = true ∧ two = false) ∨ (one = true ∧ two = true ∧ both = true ∧ (z.toList == (x ++ y).toList) = true)) (w : World) :
    Calls Try.prog 6 #[.string a, .string b] w fun e w' => e = .returned (.bool true) ∧ Below w.heap.size w w' := by
  rcases hway with rfl | ⟨rfl, rfl⟩ | ⟨rfl, rfl, rfl, ez⟩
  all_goals
    go_enter Try.func6, Try.ntmps6
    go_wp2_with fail
    refine (awake_at (Below.refl _ w)).mono ?_
    rintro e u ⟨rfl, hB⟩
    go_wp2_with fail
    refine (narrow_at a (by omega) x _ HX.out H1.out hB).mono ?_
    rintro e u1 ⟨rfl, hB1⟩
    go_wp2_with fail
    refine (narrow_at b (by omega) y _ HY.out H2.out hB1).mono ?_
    rintro e u2 ⟨rfl, hB2⟩
    go_wp2_with fail
    refine (narrow_at (a ++ b) (by omega) z _ HZ.out H3.out hB2).mono ?_
    rintro e u3 ⟨rfl, hB3⟩
    go_wp2_with fail
    refine (wide_at (a ++ b) (by omega) xab HAB.out hB3).mono ?_
    rintro e u4 ⟨rfl, hB4⟩
    go_wp2_with fail
    refine (wide_at a (by omega) xa HA.out hB4).mono ?_
    rintro e u5 ⟨rfl, hB5⟩
    go_wp2_with fail
    refine (wide_at b (by omega) xb HB.out hB5).mono ?_
    rintro e u6 ⟨rfl, hB6⟩
    go_wp2
    go_ret
    exact ⟨rfl, hB6⟩

theorem nar_len (s : ByteArray) (h : s.size ≤ 300) : (narT s.data.toList).size ≤ 300 := by
  cases hn : narrow s.data.toList with
  | none => rw [narT_none hn]; exact Nat.zero_le _
  | some y =>
    rw [narT_some hn, size_of]
    have e1 := narrow_some hn
    have e2 := wide_len y
    rw [← e1] at e2
    have : s.data.toList.length = s.size := rfl
    omega

theorem walk (a0 : ByteArray) (a1 : ByteArray) (w0 : a0.size ≤ maxLen) (w1 : a1.size ≤ maxLen) (w : World) :
    Calls Try.prog 6 #[.string a0, .string a1] w fun e w' => e = .returned (.bool true) ∧ Below w.heap.size w w' := by
  cases h : decide ((300 : Int) < a0.size)
  · cases h2 : decide ((300 : Int) < a1.size)
    · have ha : a0.size ≤ 300 := by simp at h; omega
      have hb : a1.size ≤ 300 := by simp at h2; omega
      have la := wide_len a0.data.toList
      have lb := wide_len a1.data.toList
      have ea : a0.data.toList.length = a0.size := rfl
      have eb : a1.data.toList.length = a1.size := rfl
      refine walkIn a0 a1 h h2 ha hb (by rw [ByteArray.size_append]; omega) _ _ _ _ _ _ _ _ _ (Lib.hid rfl) (Lib.hid rfl) (Lib.hid rfl) (Lib.hid rfl) (Lib.hid rfl) (Lib.hid rfl) (Lib.hid rfl) (Lib.hid rfl) (Lib.hid rfl)
        (by rw [size_of]; omega) (by rw [size_of]; omega) (nar_len a0 ha) (nar_len a1 hb) ?_ ?_ w
      · rw [ByteArray.toList_eq, ByteArray.toList_eq, text_append, text_append, wide_append]
        exact beq_self_eq_true _
      · cases h3 : narrow a0.data.toList with
        | none => exact .inl (narB_none h3)
        | some x => cases h4 : narrow a1.data.toList with
          | none => exact .inr (.inl ⟨narB_some h3, narB_none h4⟩)
          | some y =>
            have h5 := narrow_both h3 h4
            rw [← text_append] at h5
            refine .inr (.inr ⟨narB_some h3, narB_some h4, narB_some h5, ?_⟩)
            rw [narT_some h3, narT_some h4, narT_some h5, ByteArray.toList_eq, ByteArray.toList_eq, text_append]
            exact beq_self_eq_true _
    · exact walkOut a0 a1 (.inr ⟨h, h2⟩) w
  · exact walkOut a0 a1 (.inl h) w

/-! ### The row's step -/
set_option maxRecDepth 100000 in
theorem lifted (os : Os) (started : os.Started) (H : Type) (enc : TypeId × Value → H) :
    ReturnsInHanded {} Try.checked os 6 .any (Rows.isoPartsSpec.pre6 enc Try.prog Try.f6 Rows.isoPartsRow.domain false) (Rows.isoPartsSpec.post enc Try.prog Try.f6 false true false false) := by
  refine returnsInHanded_of_change (C := Try.checked) own started (by kernel_rfl) Try.func6
    (ChangeSpec.witness6 (enc := enc) (C := Try.checked) false ⟨#[], #[.string ByteArray.empty, .string ByteArray.empty], []⟩ 8 (by kernel_rfl) (by kernel_rfl) (by kernel_rfl) (by kernel_rfl)) ?_
  intro W base args ds gs before hval0 hW hcnd _
  have hval : ∀ (j : Nat) t v, Try.f6.params[j]? = some t → args[j]? = some v → Value.okWide Try.prog W .any base t v := hval0
  have hW' := hW
  obtain ⟨p, q, hA0, hV, rfl, hfz, hnd⟩ := hW
  have hA : DataW.TrodAll enc Try.prog W 0 (fun _ => true) true Try.f6.params.toList args.toList ds p := hA0
  rw [Try.params6] at hA hval
  obtain ⟨v0, vs0, d0, ds0, p0, q0, hargs, rfl, rfl, h0, r0⟩ := trodAll_cons hA
  obtain ⟨v1, vs1, d1, ds1, p1, q1, rfl, rfl, rfl, h1, r1⟩ := trodAll_cons r0
  obtain ⟨rfl, rfl, rfl⟩ := trodAll_nil r1
  obtain rfl : args = #[v0, v1] := by cases args; simp_all
  obtain ⟨rfl, rfl⟩ := trodVars_none hV
  obtain ⟨a0, rfl, rfl, rfl, w0⟩ := open_string Try.underlying9 (hval 0 9 v0 rfl rfl) h0
  obtain ⟨a1, rfl, rfl, rfl, w1⟩ := open_string Try.underlying9 (hval 1 9 v1 rfl rfl) h1
  clear hA0 hval0
  simp only [List.append_nil] at hW'
  refine (walk a0 a1 w0 w1 W).mono fun e W' ⟨he, hg⟩ => ?_
  subst he
  exact ⟨_, rfl, _, _, _, [], _, [], hW', trodAll_mk1 (shut_bool Try.underlying4 _), (trodAll_cons_mk (shut_string Try.underlying9 w0) (trodAll_cons_mk (shut_string Try.underlying9 w1) trodAll_mk0)), rfl, hg.frame _, fun h => by cases h⟩

theorem over : Rows.isoPartsRow.holds Try.pinned (OpenSpec.ofChange Rows.isoPartsSpec) :=
  OpenClaim.holds_of_wide 6 Try.f6 rfl rfl rfl rfl rfl rfl rfl ⟨rfl, rfl, rfl, rfl, rfl⟩ rfl rfl rfl rfl rfl (by kernel_rfl) Try.func6 (by kernel_rfl)
    (of_decide_eq_true (by kernel_rfl)) (by unfold Func.isWrapper; first | (rw [if_pos (by decide +kernel)]; kernel_rfl) | (rw [if_neg (by decide +kernel)]; exact ⟨rfl, rfl⟩))
    (fun os started H enc _ => lifted os started H enc)

/-- The statement. -/
theorem proved : Rows.IsoPartsSaid :=
  over
#print axioms proved
end Go.Proofs.Ytkhpbcdjmcpgdaa.isoParts
