/-
  The law PctTells holds for every input: for every number of a set, every byte and every text the call returns true and leaves what was there as it was. No condition.
-/
import Derived.Test.YtpbcienekjnelaaRows
import Derived.WalkKit
import Derived.ProofKit
import Derived.OpenShut
import Derived.ShutString
import Derived.Test.YtpbcienekjnelaaPRefb
namespace Go.Proofs.Ytpbcienekjnelaa.pctTells
open Go.ChangeShapes Go.WideShapes Go.ChangeAt Go.RowKit
open Go.ChangeMaps (open_string shut_string)
open Go.Shelf
open Go.Proofs.Ytpbcienekjnelaa.Pct
set_option linter.unusedSimpArgs false
set_option linter.unusedVariables false      -- a walk need not use every 'w<i>' (that an integer argument fits its kind)

theorem own : ownKnob Try.prog.godebug = none := by kernel_rfl

set_option maxRecDepth 100000 in
set_option maxHeartbeats 4000000 in
theorem walkOut (set c : Int) (s : ByteArray) (h : decide ((600 : Int) < s.size) = true) (w : World) :
    Calls Try.prog 3 #[.int .i64 set, .int .u8 c, .string s] w fun e w' => e = .returned (.bool true) ∧ Below w.heap.size w w' := by
  go_enter Try.func3, Try.ntmps3
  go_wp2_with fail
  refine (awake_at (Below.refl _ w)).mono ?_
  rintro e u ⟨rfl, hB⟩
  go_wp2_with fail
  go_ret
  exact ⟨rfl, hB⟩

theorem refEncode_at (s : ByteArray) (hs : s.size ≤ 1000000) (set : Int) (x : ByteArray) (hx : (⟨(encode set s.data.toList).toArray⟩ : ByteArray) = x) {w u : World} (hB : Below w.heap.size w u) :
    Calls Try.prog 15 #[.string s, .int .i64 set] u fun e w' => e = .returned (.string x) ∧ Below w.heap.size w w' := by
  subst hx
  exact calls_below (refEncode_any s hs set u) hB
theorem refDecode_at (s : ByteArray) (hs : s.size ≤ 1000000) (x : ByteArray) (hx : (⟨(Pct.decode s.data.toList).toArray⟩ : ByteArray) = x) {w u : World} (hB : Below w.heap.size w u) :
    Calls Try.prog 17 #[.string s] u fun e w' => e = .returned (.string x) ∧ Below w.heap.size w w' := by
  subst hx
  exact calls_below (refDecode_any s hs u) hB

set_option maxRecDepth 100000 in
set_option maxHeartbeats 4000000 in
theorem walkIn (set : Int) (y : UInt8) (s : ByteArray) (h : decide ((600 : Int) < s.size) = false) (hs : Hid (s.size ≤ 600)) (x d : ByteArray) (hx : Hid ((⟨(encode set s.data.toList).toArray⟩ : ByteArray) = x)) (hd : Hid ((⟨(Pct.decode s.data.toList).toArray⟩ : ByteArray) = d)) (b r : Bool) (hb : Hid (inB set y = b)) (hr : Hid (readyB set s.data.toList = r)) (w : World) :
    Calls Try.prog 3 #[.int .i64 set, .int .u8 (y.toNat : Int), .string s] w fun e w' => e = .returned (.bool true) ∧ Below w.heap.size w w' := by
  have hs6 : s.size ≤ 1000000 := by have := hs.out; omega
  have hsm : s.size ≤ maxLen := by unfold maxLen; omega
  have H6 := Lib.hid hs6
  have HM := Lib.hid hsm
  clear hs6 hsm
  go_enter Try.func3, Try.ntmps3
  go_wp2_with fail
  refine (awake_at (Below.refl _ w)).mono ?_
  rintro e u ⟨rfl, hB⟩
  have c1 := refIn_any set y u
  rw [hb.out] at c1
  go_wp2_with fail
  refine c1.mono ?_
  rintro e u1 ⟨rfl, rfl⟩
  clear c1
  have c2 := refReady_any s HM.out set u
  rw [hr.out] at c2
  go_wp2_with fail
  refine c2.mono ?_
  rintro e u1 ⟨rfl, rfl⟩
  clear c2
  go_wp2_with fail
  refine (in_at set y b hb.out hB).mono ?_
  rintro e u2 ⟨rfl, hB2⟩
  go_wp2_with fail
  refine (encode_at s H6.out set x hx.out hB2).mono ?_
  rintro e u3 ⟨rfl, hB3⟩
  go_wp2_with fail
  refine (refEncode_at s H6.out set x hx.out hB3).mono ?_
  rintro e u4 ⟨rfl, hB4⟩
  go_wp2_with fail
  refine (decode_at s H6.out d hd.out hB4).mono ?_
  rintro e u5 ⟨rfl, hB5⟩
  go_wp2_with fail
  refine (refDecode_at s H6.out d hd.out hB5).mono ?_
  rintro e u6 ⟨rfl, hB6⟩
  go_wp2_with fail
  refine (ready_at s HM.out set r hr.out hB6).mono ?_
  rintro e u7 ⟨rfl, hB7⟩
  go_wp2
  go_ret
  exact ⟨rfl, hB7⟩

theorem walk (a0 : Int) (a1 : Int) (a2 : ByteArray) (w0 : (Lit.int .i64 a0).wf = true) (w1 : (Lit.int .u8 a1).wf = true) (w2 : a2.size ≤ maxLen) (w : World) :
    Calls Try.prog 3 #[.int .i64 a0, .int .u8 a1, .string a2] w fun e w' => e = .returned (.bool true) ∧ Below w.heap.size w w' := by
  cases h : decide ((600 : Int) < a2.size)
  · obtain ⟨y, rfl⟩ := byte_of w1
    exact walkIn a0 y a2 h (Lib.hid (by simp at h; omega)) _ _ (Lib.hid rfl) (Lib.hid rfl) _ _ (Lib.hid rfl) (Lib.hid rfl) w
  · exact walkOut a0 a1 a2 h w

/-! ### The row's step -/
set_option maxRecDepth 100000 in
theorem lifted (os : Os) (started : os.Started) (H : Type) (enc : TypeId × Value → H) :
    ReturnsInHanded {} Try.checked os 3 .any (Rows.pctTellsSpec.pre6 enc Try.prog Try.f3 Rows.pctTellsRow.domain false) (Rows.pctTellsSpec.post enc Try.prog Try.f3 false true false false) := by
  refine returnsInHanded_of_change (C := Try.checked) own started (by kernel_rfl) Try.func3
    (ChangeSpec.witness6 (enc := enc) (C := Try.checked) false ⟨#[], #[.int .i64 0, .int .u8 0, .string ByteArray.empty], []⟩ 8 (by kernel_rfl) (by kernel_rfl) (by kernel_rfl) (by kernel_rfl)) ?_
  intro W base args ds gs before hval0 hW hcnd _
  have hval : ∀ (j : Nat) t v, Try.f3.params[j]? = some t → args[j]? = some v → Value.okWide Try.prog W .any base t v := hval0
  have hW' := hW
  obtain ⟨p, q, hA0, hV, rfl, hfz, hnd⟩ := hW
  have hA : DataW.TrodAll enc Try.prog W 0 (fun _ => true) true Try.f3.params.toList args.toList ds p := hA0
  rw [Try.params3] at hA hval
  obtain ⟨v0, vs0, d0, ds0, p0, q0, hargs, rfl, rfl, h0, r0⟩ := trodAll_cons hA
  obtain ⟨v1, vs1, d1, ds1, p1, q1, rfl, rfl, rfl, h1, r1⟩ := trodAll_cons r0
  obtain ⟨v2, vs2, d2, ds2, p2, q2, rfl, rfl, rfl, h2, r2⟩ := trodAll_cons r1
  obtain ⟨rfl, rfl, rfl⟩ := trodAll_nil r2
  obtain rfl : args = #[v0, v1, v2] := by cases args; simp_all
  obtain ⟨rfl, rfl⟩ := trodVars_none hV
  obtain ⟨a0, rfl, rfl, rfl, w0⟩ := open_int Try.underlying3 (hval 0 3 v0 rfl rfl) h0
  obtain ⟨a1, rfl, rfl, rfl, w1⟩ := open_int Try.underlying5 (hval 1 5 v1 rfl rfl) h1
  obtain ⟨a2, rfl, rfl, rfl, w2⟩ := open_string Try.underlying9 (hval 2 9 v2 rfl rfl) h2
  clear hA0 hval0
  simp only [List.append_nil] at hW'
  refine (walk a0 a1 a2 w0 w1 w2 W).mono fun e W' ⟨he, hg⟩ => ?_
  subst he
  exact ⟨_, rfl, _, _, _, [], _, [], hW', trodAll_mk1 (shut_bool Try.underlying4 _), (trodAll_cons_mk (shut_int Try.underlying3 w0) (trodAll_cons_mk (shut_int Try.underlying5 w1) (trodAll_cons_mk (shut_string Try.underlying9 w2) trodAll_mk0))), rfl, hg.frame _, fun h => by cases h⟩

theorem over : Rows.pctTellsRow.holds Try.pinned (OpenSpec.ofChange Rows.pctTellsSpec) :=
  OpenClaim.holds_of_wide 3 Try.f3 rfl rfl rfl rfl rfl rfl rfl ⟨rfl, rfl, rfl, rfl, rfl⟩ rfl rfl rfl rfl rfl (by kernel_rfl) Try.func3 (by kernel_rfl)
    (of_decide_eq_true (by kernel_rfl)) (by unfold Func.isWrapper; first | (rw [if_pos (by decide +kernel)]; kernel_rfl) | (rw [if_neg (by decide +kernel)]; exact ⟨rfl, rfl⟩))
    (fun os started H enc _ => lifted os started H enc)

/-- The statement. -/
theorem proved : Rows.PctTellsSaid :=
  over
#print axioms proved
end Go.Proofs.Ytpbcienekjnelaa.pctTells
