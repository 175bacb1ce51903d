/-
  The law IsoByte holds for every input: for every byte and every two texts the call returns true and leaves what was there as it was. No condition.
-/
import Derived.Test.YtkhpbcdjmcpgdaaRows
import Derived.WalkKit
import Derived.ProofKit
import Derived.OpenShut
import Derived.ShutString
import Derived.Test.YtkhpbcdjmcpgdaaIAwake
namespace Go.Proofs.Ytkhpbcdjmcpgdaa.isoByte
open Go.ChangeShapes Go.WideShapes Go.ChangeAt Go.RowKit
open Go.ChangeMaps (open_string shut_string)
open Go.Shelf
open Go.Proofs.Ytkhpbcdjmcpgdaa.Iso
set_option linter.unusedSimpArgs false
set_option linter.unusedVariables false      -- a walk need not use every 'w<i>' (that an integer argument fits its kind)

theorem own : ownKnob Try.prog.godebug = none := by kernel_rfl

set_option maxRecDepth 100000 in
set_option maxHeartbeats 4000000 in
theorem walkOut (c : Int) (a b : ByteArray) (h : decide ((600 : Int) < a.size) = true ∨ (decide ((600 : Int) < a.size) = false ∧ decide ((600 : Int) < b.size) = true)) (w : World) :
    Calls Try.prog 7 #[.int .u8 c, .string a, .string b] w fun e w' => e = .returned (.bool true) ∧ Below w.heap.size w w' := by
  rcases h with h | ⟨h, h2⟩
  all_goals
    go_enter Try.func7, Try.ntmps7
    go_wp2_with fail
    refine (awake_at (Below.refl _ w)).mono ?_
    rintro e u ⟨rfl, hB⟩
    go_wp2_with fail
    go_ret
    exact ⟨rfl, hB⟩

set_option maxRecDepth 100000 in
set_option maxHeartbeats 4000000 in
theorem walkIn (y : UInt8) (a b : ByteArray) (h : decide ((600 : Int) < a.size) = false) (h2 : decide ((600 : Int) < b.size) = false) (ha : a.size ≤ 600) (hb : b.size ≤ 600)
    (x xa xb : ByteArray) (p q : Bool) (HX : Hid ((⟨(wide (⟨#[y]⟩ : ByteArray).data.toList).toArray⟩ : ByteArray) = x)) (lx : x.size ≤ 2) (HN : Hid (narT x.data.toList = ⟨#[y]⟩)) (HT : Hid (narB x.data.toList = true)) (HC : Hid ((count x.data.toList : Int) = 1))
    (HA : Hid ((⟨(wide a.data.toList).toArray⟩ : ByteArray) = xa)) (HB : Hid ((⟨(wide b.data.toList).toArray⟩ : ByteArray) = xb))
    (n1 : ((x.size : Int) == 1) = p) (n2 : decide ((y.toNat : Int) < 128) = p) (e1 : (xa.toList == xb.toList) = q) (e2 : (a.toList == b.toList) = q) (w : World) :
    Calls Try.prog 7 #[.int .u8 (y.toNat : Int), .string a, .string b] w fun e w' => e = .returned (.bool true) ∧ Below w.heap.size w w' := by
  cases p <;> cases q
  all_goals
    go_enter Try.func7, Try.ntmps7
    go_wp2_with fail
    refine (awake_at (Below.refl _ w)).mono ?_
    rintro e u ⟨rfl, hB⟩
    have hcv := one_conv u y
    go_wp2_with fail
    refine (wide_at ⟨#[y]⟩ (show 1 ≤ 1000000 by omega) x HX.out (hB.alloc hB.size _)).mono ?_
    rintro e u1 ⟨rfl, hB1⟩
    clear hcv
    go_wp2_with fail
    refine (narrow_at x (by omega) ⟨#[y]⟩ true HN.out HT.out hB1).mono ?_
    rintro e u2 ⟨rfl, hB2⟩
    go_wp2_with fail
    refine (count_at x (by unfold maxLen; omega) 1 HC.out hB2).mono ?_
    rintro e u3 ⟨rfl, hB3⟩
    go_wp2_with fail
    refine (wide_at a (by omega) xa HA.out hB3).mono ?_
    rintro e u4 ⟨rfl, hB4⟩
    go_wp2_with fail
    refine (wide_at b (by omega) xb HB.out hB4).mono ?_
    rintro e u5 ⟨rfl, hB5⟩
    go_wp2
    go_ret
    exact ⟨rfl, hB5⟩

theorem walk (a0 : Int) (a1 : ByteArray) (a2 : ByteArray) (w0 : (Lit.int .u8 a0).wf = true) (w1 : a1.size ≤ maxLen) (w2 : a2.size ≤ maxLen) (w : World) :
    Calls Try.prog 7 #[.int .u8 a0, .string a1, .string a2] w fun e w' => e = .returned (.bool true) ∧ Below w.heap.size w w' := by
  cases h : decide ((600 : Int) < a1.size)
  · cases h2 : decide ((600 : Int) < a2.size)
    · obtain ⟨y, rfl⟩ := byte_of w0
      have ha : a1.size ≤ 600 := by simp at h; omega
      have hb : a2.size ≤ 600 := by simp at h2; omega
      have hnw := narrow_wide0 [y]
      have hwl := wide_len [y]
      have hw1 : wide [y] = wid1 y := by rw [wide_cons, wide_nil, List.append_nil]
      refine walkIn y a1 a2 h h2 ha hb ⟨(wide [y]).toArray⟩ _ _ (decide ((y.toNat : Int) < 128)) (a1.toList == a2.toList) (Lib.hid rfl) (by rw [size_of]; exact hwl.2) (Lib.hid (narT_some hnw.1)) (Lib.hid (narB_some hnw.1)) (Lib.hid (congrArg (fun n : Nat => (n : Int)) hnw.2)) (Lib.hid rfl) (Lib.hid rfl) ?_ rfl ?_ rfl w
      · rw [size_of, hw1]
        by_cases hy : y.toNat < 128
        · rw [wid1_low hy, decide_eq_true (by omega)]; rfl
        · rw [wid1_high hy, decide_eq_false (by omega)]; rfl
      · rw [ByteArray.toList_eq, ByteArray.toList_eq, ByteArray.toList_eq, ByteArray.toList_eq, Bool.eq_iff_iff, beq_iff_eq, beq_iff_eq]
        exact ⟨fun e => wide_inj e, fun e => by rw [e]⟩
    · exact walkOut a0 a1 a2 (.inr ⟨h, h2⟩) w
  · exact walkOut a0 a1 a2 (.inl h) w

/-! ### The row's step -/
set_option maxRecDepth 100000 in
theorem lifted (os : Os) (started : os.Started) (H : Type) (enc : TypeId × Value → H) :
    ReturnsInHanded {} Try.checked os 7 .any (Rows.isoByteSpec.pre6 enc Try.prog Try.f7 Rows.isoByteRow.domain false) (Rows.isoByteSpec.post enc Try.prog Try.f7 false true false false) := by
  refine returnsInHanded_of_change (C := Try.checked) own started (by kernel_rfl) Try.func7
    (ChangeSpec.witness6 (enc := enc) (C := Try.checked) false ⟨#[], #[.int .u8 0, .string ByteArray.empty, .string ByteArray.empty], []⟩ 8 (by kernel_rfl) (by kernel_rfl) (by kernel_rfl) (by kernel_rfl)) ?_
  intro W base args ds gs before hval0 hW hcnd _
  have hval : ∀ (j : Nat) t v, Try.f7.params[j]? = some t → args[j]? = some v → Value.okWide Try.prog W .any base t v := hval0
  have hW' := hW
  obtain ⟨p, q, hA0, hV, rfl, hfz, hnd⟩ := hW
  have hA : DataW.TrodAll enc Try.prog W 0 (fun _ => true) true Try.f7.params.toList args.toList ds p := hA0
  rw [Try.params7] at hA hval
  obtain ⟨v0, vs0, d0, ds0, p0, q0, hargs, rfl, rfl, h0, r0⟩ := trodAll_cons hA
  obtain ⟨v1, vs1, d1, ds1, p1, q1, rfl, rfl, rfl, h1, r1⟩ := trodAll_cons r0
  obtain ⟨v2, vs2, d2, ds2, p2, q2, rfl, rfl, rfl, h2, r2⟩ := trodAll_cons r1
  obtain ⟨rfl, rfl, rfl⟩ := trodAll_nil r2
  obtain rfl : args = #[v0, v1, v2] := by cases args; simp_all
  obtain ⟨rfl, rfl⟩ := trodVars_none hV
  obtain ⟨a0, rfl, rfl, rfl, w0⟩ := open_int Try.underlying5 (hval 0 5 v0 rfl rfl) h0
  obtain ⟨a1, rfl, rfl, rfl, w1⟩ := open_string Try.underlying9 (hval 1 9 v1 rfl rfl) h1
  obtain ⟨a2, rfl, rfl, rfl, w2⟩ := open_string Try.underlying9 (hval 2 9 v2 rfl rfl) h2
  clear hA0 hval0
  simp only [List.append_nil] at hW'
  refine (walk a0 a1 a2 w0 w1 w2 W).mono fun e W' ⟨he, hg⟩ => ?_
  subst he
  exact ⟨_, rfl, _, _, _, [], _, [], hW', trodAll_mk1 (shut_bool Try.underlying4 _), (trodAll_cons_mk (shut_int Try.underlying5 w0) (trodAll_cons_mk (shut_string Try.underlying9 w1) (trodAll_cons_mk (shut_string Try.underlying9 w2) trodAll_mk0))), rfl, hg.frame _, fun h => by cases h⟩

theorem over : Rows.isoByteRow.holds Try.pinned (OpenSpec.ofChange Rows.isoByteSpec) :=
  OpenClaim.holds_of_wide 7 Try.f7 rfl rfl rfl rfl rfl rfl rfl ⟨rfl, rfl, rfl, rfl, rfl⟩ rfl rfl rfl rfl rfl (by kernel_rfl) Try.func7 (by kernel_rfl)
    (of_decide_eq_true (by kernel_rfl)) (by unfold Func.isWrapper; first | (rw [if_pos (by decide +kernel)]; kernel_rfl) | (rw [if_neg (by decide +kernel)]; exact ⟨rfl, rfl⟩))
    (fun os started H enc _ => lifted os started H enc)

/-- The statement. -/
theorem proved : Rows.IsoByteSaid :=
  over
#print axioms proved
end Go.Proofs.Ytkhpbcdjmcpgdaa.isoByte
