/-
  The law DeciTells holds for every input: for every number, every text and every bound the call returns true and leaves what was there as it was. No condition.
-/
import Derived.Test.YtdmjolmclnnngaaRows
import Derived.WalkKit
import Derived.ProofKit
import Derived.OpenShut
import Derived.ShutString
import Derived.Test.YtdmjolmclnnngaaRefRead
namespace Go.Proofs.Ytdmjolmclnnngaa.deciTells
open Go.ChangeShapes Go.WideShapes Go.ChangeAt Go.RowKit
open Go.ChangeMaps (open_string shut_string)
open Go.Shelf
set_option linter.unusedSimpArgs false
set_option linter.unusedVariables false      -- a walk need not use every 'w<i>' (that an integer argument fits its kind)

theorem own : ownKnob Try.prog.godebug = none := by kernel_rfl

theorem show_at (n : Int) (h : -9223372036854775808 ≤ n ∧ n ≤ 9223372036854775807) (x : ByteArray) (hx : (⟨(showI n).toArray⟩ : ByteArray) = x) (w : World) :
    Calls Try.prog 13 #[.int .i64 n] w fun e W' => e = .returned (.string x) ∧ Below w.heap.size w W' := by
  subst hx
  exact show_calls n h.1 h.2 w
theorem refShow_at (n : Int) (h : -9223372036854775808 ≤ n ∧ n ≤ 9223372036854775807) (x : ByteArray) (hx : (⟨(showI n).toArray⟩ : ByteArray) = x) (w : World) :
    Calls Try.prog 14 #[.int .i64 n] w fun e W' => e = .returned (.string x) ∧ Below w.heap.size w W' := by
  subst hx
  exact refShow_calls n h.1 h.2 w
theorem read_at (s : ByteArray) (hs : s.size ≤ maxLen) (most : Int) (m1 : most ≤ 9223372036854775807) (x : Int) (b : Bool) (hx : readI s.data.toList most = x) (hb : readB s.data.toList most = b) (w : World) :
    Calls Try.prog 10 #[.string s, .int .i64 most] w fun e W' => e = .returned (.tuple #[.int .i64 x, .bool b]) ∧ Below w.heap.size w W' := by
  subst hx; subst hb
  exact read_calls s hs most m1 w
theorem refRead_at (s : ByteArray) (hs : s.size ≤ maxLen) (most : Int) (m1 : most ≤ 9223372036854775807) (x : Int) (b : Bool) (hx : readI s.data.toList most = x) (hb : readB s.data.toList most = b) (w : World) :
    Calls Try.prog 11 #[.string s, .int .i64 most] w fun e W' => e = .returned (.tuple #[.int .i64 x, .bool b]) ∧ Below w.heap.size w W' := by
  subst hx; subst hb
  exact refRead_calls s hs most m1 w
theorem plain_at (s : ByteArray) (hs : s.size ≤ maxLen) (b : Bool) (hb : plainB s.data.toList = b) (w : World) :
    Calls Try.prog 15 #[.string s] w fun e W' => e = .returned (.bool b) ∧ w = W' := by
  subst hb
  exact plain_any s hs w
theorem refPlain_at (s : ByteArray) (hs : s.size ≤ maxLen) (b : Bool) (hb : plainB s.data.toList = b) (w : World) :
    Calls Try.prog 12 #[.string s] w fun e W' => e = .returned (.bool b) ∧ w = W' := by
  subst hb
  exact refPlain_any s hs w

set_option maxRecDepth 100000 in
set_option maxHeartbeats 4000000 in
theorem walkOut (n most : Int) (s : ByteArray) (h : decide ((600 : Int) < s.size) = true) (w : World) :
    Calls Try.prog 3 #[.int .i64 n, .string s, .int .i64 most] w fun e w' => e = .returned (.bool true) ∧ Below w.heap.size w w' := by
  go_enter Try.func3, Try.ntmps3
  go_wp2_with fail
  refine (awake_calls _).mono ?_
  rintro e u1 ⟨rfl, hB1⟩
  go_wp2_with fail
  go_ret
  exact ⟨rfl, hB1⟩

set_option maxRecDepth 100000 in
set_option maxHeartbeats 4000000 in
theorem walkIn (n most : Int) (s : ByteArray) (h : decide ((600 : Int) < s.size) = false) (hs : Hid (s.size ≤ maxLen)) (hb : Hid (-9223372036854775808 ≤ n ∧ n ≤ 9223372036854775807)) (m1 : Hid (most ≤ 9223372036854775807))
    (x : Int) (b p : Bool) (hx : Hid (readI s.data.toList most = x)) (hr : Hid (readB s.data.toList most = b)) (hp : Hid (plainB s.data.toList = p)) (sb : ByteArray) (HS : Hid ((⟨(showI n).toArray⟩ : ByteArray) = sb)) (w : World) :
    Calls Try.prog 3 #[.int .i64 n, .string s, .int .i64 most] w fun e w' => e = .returned (.bool true) ∧ Below w.heap.size w w' := by
  go_enter Try.func3, Try.ntmps3
  go_wp2_with fail
  refine (awake_calls _).mono ?_
  rintro e u1 ⟨rfl, hB1⟩
  go_wp2_with fail
  refine (read_at s hs.out most m1.out x b hx.out hr.out _).mono ?_
  rintro e u2 ⟨rfl, hB2⟩
  go_wp2_with fail
  refine (refRead_at s hs.out most m1.out x b hx.out hr.out _).mono ?_
  rintro e u3 ⟨rfl, hB3⟩
  go_wp2_with fail
  refine (refPlain_at s hs.out p hp.out _).mono ?_
  rintro e u ⟨rfl, rfl⟩
  go_wp2_with fail
  refine (show_at n hb.out sb HS.out _).mono ?_
  rintro e u4 ⟨rfl, hB4⟩
  go_wp2_with fail
  refine (refShow_at n hb.out sb HS.out _).mono ?_
  rintro e u5 ⟨rfl, hB5⟩
  have hB := Lib.hid (below2 (below4 hB1 hB2 hB3 hB4) hB5)
  clear hB1 hB2 hB3 hB4 hB5
  go_wp2_with fail
  refine (plain_at s hs.out p hp.out _).mono ?_
  rintro e u ⟨rfl, rfl⟩
  go_wp2
  go_ret
  exact ⟨rfl, hB.out⟩

theorem walk (a0 : Int) (a1 : ByteArray) (a2 : Int) (w0 : (Lit.int .i64 a0).wf = true) (w1 : a1.size ≤ maxLen) (w2 : (Lit.int .i64 a2).wf = true) (w : World) :
    Calls Try.prog 3 #[.int .i64 a0, .string a1, .int .i64 a2] w fun e w' => e = .returned (.bool true) ∧ Below w.heap.size w w' := by
  cases h : decide ((600 : Int) < a1.size)
  · exact walkIn a0 a2 a1 h (Lib.hid w1) (Lib.hid (bounds_i64 w0)) (Lib.hid (bounds_i64 w2).2) _ _ _ (Lib.hid rfl) (Lib.hid rfl) (Lib.hid rfl) _ (Lib.hid rfl) w
  · exact walkOut a0 a2 a1 h w

/-! ### The row's step -/
set_option maxRecDepth 100000 in
theorem lifted (os : Os) (started : os.Started) (H : Type) (enc : TypeId × Value → H) :
    ReturnsInHanded {} Try.checked os 3 .any (Rows.deciTellsSpec.pre6 enc Try.prog Try.f3 Rows.deciTellsRow.domain false) (Rows.deciTellsSpec.post enc Try.prog Try.f3 false true false false) := by
  refine returnsInHanded_of_change (C := Try.checked) own started (by kernel_rfl) Try.func3
    (ChangeSpec.witness6 (enc := enc) (C := Try.checked) false ⟨#[], #[.int .i64 0, .string ByteArray.empty, .int .i64 0], []⟩ 8 (by kernel_rfl) (by kernel_rfl) (by kernel_rfl) (by kernel_rfl)) ?_
  intro W base args ds gs before hval0 hW hcnd _
  have hval : ∀ (j : Nat) t v, Try.f3.params[j]? = some t → args[j]? = some v → Value.okWide Try.prog W .any base t v := hval0
  have hW' := hW
  obtain ⟨p, q, hA0, hV, rfl, hfz, hnd⟩ := hW
  have hA : DataW.TrodAll enc Try.prog W 0 (fun _ => true) true Try.f3.params.toList args.toList ds p := hA0
  rw [Try.params3] at hA hval
  obtain ⟨v0, vs0, d0, ds0, p0, q0, hargs, rfl, rfl, h0, r0⟩ := trodAll_cons hA
  obtain ⟨v1, vs1, d1, ds1, p1, q1, rfl, rfl, rfl, h1, r1⟩ := trodAll_cons r0
  obtain ⟨v2, vs2, d2, ds2, p2, q2, rfl, rfl, rfl, h2, r2⟩ := trodAll_cons r1
  obtain ⟨rfl, rfl, rfl⟩ := trodAll_nil r2
  obtain rfl : args = #[v0, v1, v2] := by cases args; simp_all
  obtain ⟨rfl, rfl⟩ := trodVars_none hV
  obtain ⟨a0, rfl, rfl, rfl, w0⟩ := open_int Try.underlying3 (hval 0 3 v0 rfl rfl) h0
  obtain ⟨a1, rfl, rfl, rfl, w1⟩ := open_string Try.underlying9 (hval 1 9 v1 rfl rfl) h1
  obtain ⟨a2, rfl, rfl, rfl, w2⟩ := open_int Try.underlying3 (hval 2 3 v2 rfl rfl) h2
  clear hA0 hval0
  simp only [List.append_nil] at hW'
  refine (walk a0 a1 a2 w0 w1 w2 W).mono fun e W' ⟨he, hg⟩ => ?_
  subst he
  exact ⟨_, rfl, _, _, _, [], _, [], hW', trodAll_mk1 (shut_bool Try.underlying4 _), (trodAll_cons_mk (shut_int Try.underlying3 w0) (trodAll_cons_mk (shut_string Try.underlying9 w1) (trodAll_cons_mk (shut_int Try.underlying3 w2) trodAll_mk0))), rfl, hg.frame _, fun h => by cases h⟩

theorem over : Rows.deciTellsRow.holds Try.pinned (OpenSpec.ofChange Rows.deciTellsSpec) :=
  OpenClaim.holds_of_wide 3 Try.f3 rfl rfl rfl rfl rfl rfl rfl ⟨rfl, rfl, rfl, rfl, rfl⟩ rfl rfl rfl rfl rfl (by kernel_rfl) Try.func3 (by kernel_rfl)
    (of_decide_eq_true (by kernel_rfl)) (by unfold Func.isWrapper; first | (rw [if_pos (by decide +kernel)]; kernel_rfl) | (rw [if_neg (by decide +kernel)]; exact ⟨rfl, rfl⟩))
    (fun os started H enc _ => lifted os started H enc)

/-- The statement. -/
theorem proved : Rows.DeciTellsSaid :=
  over
#print axioms proved
end Go.Proofs.Ytdmjolmclnnngaa.deciTells
