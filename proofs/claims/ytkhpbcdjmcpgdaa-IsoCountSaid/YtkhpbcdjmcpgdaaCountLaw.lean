/-
  The law IsoCount holds for every input: for every two texts the call returns true and leaves what was there as it was. No condition.
-/
import Derived.Test.YtkhpbcdjmcpgdaaRows
import Derived.WalkKit
import Derived.ProofKit
import Derived.OpenShut
import Derived.ShutString
import Derived.Test.YtkhpbcdjmcpgdaaIAwake
namespace Go.Proofs.Ytkhpbcdjmcpgdaa.isoCount
open Go.ChangeShapes Go.WideShapes Go.ChangeAt Go.RowKit
open Go.ChangeMaps (open_string shut_string)
open Go.Shelf
open Go.Proofs.Ytkhpbcdjmcpgdaa.Iso
set_option linter.unusedSimpArgs false
set_option linter.unusedVariables false      -- a walk need not use every 'w<i>' (that an integer argument fits its kind)

theorem own : ownKnob Try.prog.godebug = none := by kernel_rfl

set_option maxRecDepth 100000 in
set_option maxHeartbeats 4000000 in
theorem walkOut (a b : ByteArray) (h : decide ((300 : Int) < a.size) = true ∨ (decide ((300 : Int) < a.size) = false ∧ decide ((300 : Int) < b.size) = true)) (w : World) :
    Calls Try.prog 8 #[.string a, .string b] w fun e w' => e = .returned (.bool true) ∧ Below w.heap.size w w' := by
  rcases h with h | ⟨h, h2⟩
  all_goals
    go_enter Try.func8, Try.ntmps8
    go_wp2_with fail
    refine (awake_at (Below.refl _ w)).mono ?_
    rintro e u ⟨rfl, hB⟩
    go_wp2_with fail
    go_ret
    exact ⟨rfl, hB⟩

set_option maxRecDepth 100000 in
set_option maxHeartbeats 4000000 in
theorem walkYes (a b : ByteArray) (h : decide ((300 : Int) < a.size) = false) (h2 : decide ((300 : Int) < b.size) = false) (ha : a.size ≤ 300) (hb : b.size ≤ 300) (lab : (a ++ b).size ≤ 600)
    (HC : Hid ((count a.data.toList : Int) = (a.size : Int))) (m : Nat) (HM : Hid ((count b.data.toList : Int) = (m : Int))) (HS : Hid ((count (a ++ b).data.toList : Int) = (a.size : Int) + (m : Int))) (hm : m ≤ 300)
    (q r : Bool) (e0 : ((a.size : Int) == 0) = r) (e1 : a.toList.isEmpty = r) (HA : Hid (plainB a.data.toList = true)) (HB : Hid (plainB b.data.toList = q)) (HP : Hid (plainB (a ++ b).data.toList = q)) (w : World) :
    Calls Try.prog 8 #[.string a, .string b] w fun e w' => e = .returned (.bool true) ∧ Below w.heap.size w w' := by
  cases r <;> cases q
  all_goals
    go_enter Try.func8, Try.ntmps8
    go_wp2_with fail
    refine (awake_at (Below.refl _ w)).mono ?_
    rintro e u ⟨rfl, hB⟩
    go_wp2_with fail
    refine (count_at a (by unfold maxLen; omega) _ HC.out hB).mono ?_
    rintro e u1 ⟨rfl, hB1⟩
    go_wp2_with fail
    refine (plain_at a (by unfold maxLen; omega) true HA.out hB1).mono ?_
    rintro e u2 ⟨rfl, hB2⟩
    go_wp2_with fail
    refine (count_at (a ++ b) (by unfold maxLen; omega) _ HS.out hB2).mono ?_
    rintro e u3 ⟨rfl, hB3⟩
    go_wp2_with fail
    refine (count_at b (by unfold maxLen; omega) _ HM.out hB3).mono ?_
    rintro e u4 ⟨rfl, hB4⟩
    go_wp2_with fail
    refine (plain_at (a ++ b) (by unfold maxLen; omega) _ HP.out hB4).mono ?_
    rintro e u5 ⟨rfl, hB5⟩
    go_wp2_with fail
    refine (plain_at a (by unfold maxLen; omega) true HA.out hB5).mono ?_
    rintro e u6 ⟨rfl, hB6⟩
    go_wp2_with fail
    refine (plain_at b (by unfold maxLen; omega) _ HB.out hB6).mono ?_
    rintro e u7 ⟨rfl, hB7⟩
    go_wp2
    go_ret
    exact ⟨rfl, hB7⟩

set_option maxRecDepth 100000 in
set_option maxHeartbeats 4000000 in
theorem walkNo (a b : ByteArray) (h : decide ((300 : Int) < a.size) = false) (h2 : decide ((300 : Int) < b.size) = false) (ha : a.size ≤ 300) (hb : b.size ≤ 300) (lab : (a ++ b).size ≤ 600)
    (n : Nat) (HC : Hid ((count a.data.toList : Int) = (n : Int))) (hn : n ≤ a.size) (e0 : ((n : Int) == 0) = false) (e1 : a.toList.isEmpty = false)
    (HA : Hid (plainB a.data.toList = false)) (HP : Hid (plainB (a ++ b).data.toList = false)) (w : World) :
    Calls Try.prog 8 #[.string a, .string b] w fun e w' => e = .returned (.bool true) ∧ Below w.heap.size w w' := by
  have q : decide ((n : Int) ≤ (a.size : Int)) = true := by simp; omega
  go_enter Try.func8, Try.ntmps8
  go_wp2_with fail
  refine (awake_at (Below.refl _ w)).mono ?_
  rintro e u ⟨rfl, hB⟩
  go_wp2_with fail
  refine (count_at a (by unfold maxLen; omega) _ HC.out hB).mono ?_
  rintro e u1 ⟨rfl, hB1⟩
  go_wp2_with fail
  refine (plain_at a (by unfold maxLen; omega) false HA.out hB1).mono ?_
  rintro e u2 ⟨rfl, hB2⟩
  go_wp2_with fail
  refine (plain_at (a ++ b) (by unfold maxLen; omega) false HP.out hB2).mono ?_
  rintro e u3 ⟨rfl, hB3⟩
  go_wp2_with fail
  refine (plain_at a (by unfold maxLen; omega) false HA.out hB3).mono ?_
  rintro e u4 ⟨rfl, hB4⟩
  go_wp2
  go_ret
  exact ⟨rfl, hB4⟩

theorem walk (a0 : ByteArray) (a1 : ByteArray) (w0 : a0.size ≤ maxLen) (w1 : a1.size ≤ maxLen) (w : World) :
    Calls Try.prog 8 #[.string a0, .string a1] w fun e w' => e = .returned (.bool true) ∧ Below w.heap.size w w' := by
  cases h : decide ((300 : Int) < a0.size)
  · cases h2 : decide ((300 : Int) < a1.size)
    · have ha : a0.size ≤ 300 := by simp at h; omega
      have hb : a1.size ≤ 300 := by simp at h2; omega
      have lab : (a0 ++ a1).size ≤ 600 := by rw [ByteArray.size_append]; omega
      have ea : a0.data.toList.length = a0.size := rfl
      have eb : a1.data.toList.length = a1.size := rfl
      have hpa := plain_append a0.data.toList a1.data.toList
      rw [← text_append] at hpa
      cases hp : plainB a0.data.toList
      · rw [hp, Bool.false_and] at hpa
        have hne : a0.data.toList ≠ [] := fun e => by rw [e] at hp; cases hp
        have hn0 : count a0.data.toList ≠ 0 := fun e => hne ((count_zero _).1 e)
        have hem : a0.toList.isEmpty = false := by rw [ByteArray.toList_eq]; simpa using hne
        exact walkNo a0 a1 h h2 ha hb lab _ (Lib.hid rfl) (count_len _) (by simpa using hn0) hem (Lib.hid hp) (Lib.hid hpa) w
      · rw [hp, Bool.true_and] at hpa
        have hc0 := count_plain0 hp
        have hcs := count_plain hp a1.data.toList
        rw [← text_append] at hcs
        have hcl := count_len a1.data.toList
        refine walkYes a0 a1 h h2 ha hb lab (Lib.hid (by rw [hc0]; rfl)) (count a1.data.toList) (Lib.hid rfl) (Lib.hid (by rw [hcs, ea]; simp)) (by omega) (plainB a1.data.toList) (a0.toList.isEmpty) ?_ rfl (Lib.hid hp) (Lib.hid rfl) (Lib.hid hpa) w
        rw [ByteArray.toList_eq, ← ea]
        cases a0.data.toList with
        | nil => rfl
        | cons c l =>
          simp
          omega
    · exact walkOut a0 a1 (.inr ⟨h, h2⟩) w
  · exact walkOut a0 a1 (.inl h) w

/-! ### The row's step -/
set_option maxRecDepth 100000 in
theorem lifted (os : Os) (started : os.Started) (H : Type) (enc : TypeId × Value → H) :
    ReturnsInHanded {} Try.checked os 8 .any (Rows.isoCountSpec.pre6 enc Try.prog Try.f8 Rows.isoCountRow.domain false) (Rows.isoCountSpec.post enc Try.prog Try.f8 false true false false) := by
  refine returnsInHanded_of_change (C := Try.checked) own started (by kernel_rfl) Try.func8
    (ChangeSpec.witness6 (enc := enc) (C := Try.checked) false ⟨#[], #[.string ByteArray.empty, .string ByteArray.empty], []⟩ 8 (by kernel_rfl) (by kernel_rfl) (by kernel_rfl) (by kernel_rfl)) ?_
  intro W base args ds gs before hval0 hW hcnd _
  have hval : ∀ (j : Nat) t v, Try.f8.params[j]? = some t → args[j]? = some v → Value.okWide Try.prog W .any base t v := hval0
  have hW' := hW
  obtain ⟨p, q, hA0, hV, rfl, hfz, hnd⟩ := hW
  have hA : DataW.TrodAll enc Try.prog W 0 (fun _ => true) true Try.f8.params.toList args.toList ds p := hA0
  rw [Try.params8] at hA hval
  obtain ⟨v0, vs0, d0, ds0, p0, q0, hargs, rfl, rfl, h0, r0⟩ := trodAll_cons hA
  obtain ⟨v1, vs1, d1, ds1, p1, q1, rfl, rfl, rfl, h1, r1⟩ := trodAll_cons r0
  obtain ⟨rfl, rfl, rfl⟩ := trodAll_nil r1
  obtain rfl : args = #[v0, v1] := by cases args; simp_all
  obtain ⟨rfl, rfl⟩ := trodVars_none hV
  obtain ⟨a0, rfl, rfl, rfl, w0⟩ := open_string Try.underlying9 (hval 0 9 v0 rfl rfl) h0
  obtain ⟨a1, rfl, rfl, rfl, w1⟩ := open_string Try.underlying9 (hval 1 9 v1 rfl rfl) h1
  clear hA0 hval0
  simp only [List.append_nil] at hW'
  refine (walk a0 a1 w0 w1 W).mono fun e W' ⟨he, hg⟩ => ?_
  subst he
  exact ⟨_, rfl, _, _, _, [], _, [], hW', trodAll_mk1 (shut_bool Try.underlying4 _), (trodAll_cons_mk (shut_string Try.underlying9 w0) (trodAll_cons_mk (shut_string Try.underlying9 w1) trodAll_mk0)), rfl, hg.frame _, fun h => by cases h⟩

theorem over : Rows.isoCountRow.holds Try.pinned (OpenSpec.ofChange Rows.isoCountSpec) :=
  OpenClaim.holds_of_wide 8 Try.f8 rfl rfl rfl rfl rfl rfl rfl ⟨rfl, rfl, rfl, rfl, rfl⟩ rfl rfl rfl rfl rfl (by kernel_rfl) Try.func8 (by kernel_rfl)
    (of_decide_eq_true (by kernel_rfl)) (by unfold Func.isWrapper; first | (rw [if_pos (by decide +kernel)]; kernel_rfl) | (rw [if_neg (by decide +kernel)]; exact ⟨rfl, rfl⟩))
    (fun os started H enc _ => lifted os started H enc)

/-- The statement. -/
theorem proved : Rows.IsoCountSaid :=
  over
#print axioms proved
end Go.Proofs.Ytkhpbcdjmcpgdaa.isoCount
