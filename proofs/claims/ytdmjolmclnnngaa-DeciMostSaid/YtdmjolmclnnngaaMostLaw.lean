/-
  The law DeciMost holds for every input: for every text and every two numbers the call returns true and leaves what was there as it was. No condition.
-/
import Derived.Test.YtdmjolmclnnngaaRows
import Derived.WalkKit
import Derived.ProofKit
import Derived.OpenShut
import Derived.ShutString
import Derived.Test.YtdmjolmclnnngaaAwake
namespace Go.Proofs.Ytdmjolmclnnngaa.deciMost
open Go.ChangeShapes Go.WideShapes Go.ChangeAt Go.RowKit
open Go.ChangeMaps (open_string shut_string)
open Go.Shelf
set_option linter.unusedSimpArgs false
set_option linter.unusedVariables false      -- a walk need not use every 'w<i>' (that an integer argument fits its kind)

theorem own : ownKnob Try.prog.godebug = none := by kernel_rfl

theorem read_at (s : ByteArray) (hs : s.size ≤ maxLen) (most : Int) (m1 : most ≤ 9223372036854775807) (x : Int) (b : Bool) (hx : readI s.data.toList most = x) (hb : readB s.data.toList most = b) (w : World) :
    Calls Try.prog 10 #[.string s, .int .i64 most] w fun e W' => e = .returned (.tuple #[.int .i64 x, .bool b]) ∧ Below w.heap.size w W' := by
  subst hx; subst hb
  exact read_calls s hs most m1 w

/-- The three ways that two readings go. -/
theorem ways (l : List UInt8) (a b : Int) (h : a ≤ b) : (∃ x : Int, readB l a = true ∧ readI l a = x ∧ readB l b = true ∧ readI l b = x ∧ x ≤ a) ∨
    (∃ x : Int, readB l a = false ∧ readI l a = 0 ∧ readB l b = true ∧ readI l b = x ∧ a < x) ∨ (readB l a = false ∧ readI l a = 0 ∧ readB l b = false ∧ readI l b = 0) := by
  unfold readI readB
  cases hp : plainB l
  · refine .inr (.inr ?_)
    simp
  · by_cases h1 : (valN l : Int) ≤ a
    · refine .inl ⟨valN l, ?_⟩
      have h2 : (valN l : Int) ≤ b := by omega
      simp [h1, h2]
    · by_cases h2 : (valN l : Int) ≤ b
      · refine .inr (.inl ⟨valN l, ?_⟩)
        simp [h1, h2]
        omega
      · refine .inr (.inr ?_)
        simp [h1, h2]

set_option maxRecDepth 100000 in
set_option maxHeartbeats 4000000 in
theorem walkOut (s : ByteArray) (a b : Int) (h : ¬ (s.size ≤ 600 ∧ a ≤ b)) (w : World) :
    Calls Try.prog 7 #[.string s, .int .i64 a, .int .i64 b] w fun e w' => e = .returned (.bool true) ∧ Below w.heap.size w w' := by
  by_cases h1 : s.size ≤ 600
  · have n1 : decide ((600 : Int) < s.size) = false := by simp; omega
    have n2 : decide (b < a) = true := by simp; omega
    clear h h1
    go_enter Try.func7, Try.ntmps7
    go_wp2_with fail
    refine (awake_calls _).mono ?_
    rintro e u1 ⟨rfl, hB1⟩
    go_wp2_with fail
    all_goals (go_ret; exact ⟨rfl, hB1⟩)
  · have n1 : decide ((600 : Int) < s.size) = true := by simp; omega
    clear h h1
    go_enter Try.func7, Try.ntmps7
    go_wp2_with fail
    refine (awake_calls _).mono ?_
    rintro e u1 ⟨rfl, hB1⟩
    go_wp2_with fail
    all_goals (go_ret; exact ⟨rfl, hB1⟩)

set_option maxRecDepth 100000 in
set_option maxHeartbeats 4000000 in
theorem walkIn (s : ByteArray) (a b : Int) (hs : s.size ≤ 600) (hab : a ≤ b) (b1 : b ≤ 9223372036854775807) (x y : Int) (p q : Bool) (hx : Hid (readI s.data.toList a = x)) (hp : Hid (readB s.data.toList a = p)) (hy : Hid (readI s.data.toList b = y)) (hq : Hid (readB s.data.toList b = q))
    (hw : (p = true ∧ q = true ∧ x = y ∧ x ≤ a) ∨ (p = false ∧ q = true ∧ x = 0 ∧ a < y) ∨ (p = false ∧ q = false ∧ x = 0)) (w : World) :
    Calls Try.prog 7 #[.string s, .int .i64 a, .int .i64 b] w fun e w' => e = .returned (.bool true) ∧ Below w.heap.size w w' := by
  have n1 : decide ((600 : Int) < s.size) = false := by simp; omega
  have n2 : decide (b < a) = false := by simp; omega
  have hm : s.size ≤ maxLen := by unfold maxLen; omega
  have HM := Lib.hid hm
  clear hm
  rcases hw with ⟨rfl, rfl, rfl, k1⟩ | ⟨rfl, rfl, rfl, k1⟩ | ⟨rfl, rfl, rfl⟩
  · have t1 : decide (x ≤ a) = true := by simpa using k1
    go_enter Try.func7, Try.ntmps7
    go_wp2_with fail
    refine (awake_calls _).mono ?_
    rintro e u1 ⟨rfl, hB1⟩
    go_wp2_with fail
    refine (read_at s HM.out a (by omega) _ _ hx.out hp.out _).mono ?_
    rintro e u2 ⟨rfl, hB2⟩
    go_wp2_with fail
    refine (read_at s HM.out b b1 _ _ hy.out hq.out _).mono ?_
    rintro e u3 ⟨rfl, hB3⟩
    have hB := Lib.hid (below3 hB1 hB2 hB3)
    clear hB1 hB2 hB3
    go_wp2
    go_ret
    exact ⟨rfl, hB.out⟩
  · have t1 : decide (a < y) = true := by simpa using k1
    go_enter Try.func7, Try.ntmps7
    go_wp2_with fail
    refine (awake_calls _).mono ?_
    rintro e u1 ⟨rfl, hB1⟩
    go_wp2_with fail
    refine (read_at s HM.out a (by omega) _ _ hx.out hp.out _).mono ?_
    rintro e u2 ⟨rfl, hB2⟩
    go_wp2_with fail
    refine (read_at s HM.out b b1 _ _ hy.out hq.out _).mono ?_
    rintro e u3 ⟨rfl, hB3⟩
    have hB := Lib.hid (below3 hB1 hB2 hB3)
    clear hB1 hB2 hB3
    go_wp2
    go_ret
    exact ⟨rfl, hB.out⟩
  · go_enter Try.func7, Try.ntmps7
    go_wp2_with fail
    refine (awake_calls _).mono ?_
    rintro e u1 ⟨rfl, hB1⟩
    go_wp2_with fail
    refine (read_at s HM.out a (by omega) _ _ hx.out hp.out _).mono ?_
    rintro e u2 ⟨rfl, hB2⟩
    go_wp2_with fail
    refine (read_at s HM.out b b1 _ _ hy.out hq.out _).mono ?_
    rintro e u3 ⟨rfl, hB3⟩
    have hB := Lib.hid (below3 hB1 hB2 hB3)
    clear hB1 hB2 hB3
    go_wp2
    go_ret
    exact ⟨rfl, hB.out⟩

theorem walk (a0 : ByteArray) (a1 : Int) (a2 : Int) (w0 : a0.size ≤ maxLen) (w1 : (Lit.int .i64 a1).wf = true) (w2 : (Lit.int .i64 a2).wf = true) (w : World) :
    Calls Try.prog 7 #[.string a0, .int .i64 a1, .int .i64 a2] w fun e w' => e = .returned (.bool true) ∧ Below w.heap.size w w' := by
  have hb := bounds_i64 w2
  by_cases h : a0.size ≤ 600 ∧ a1 ≤ a2
  · rcases ways a0.data.toList a1 a2 h.2 with ⟨x, h1, h2, h3, h4, h5⟩ | ⟨x, h1, h2, h3, h4, h5⟩ | ⟨h1, h2, h3, h4⟩
    · exact walkIn a0 a1 a2 h.1 h.2 hb.2 x x true true (Lib.hid h2) (Lib.hid h1) (Lib.hid h4) (Lib.hid h3) (.inl ⟨rfl, rfl, rfl, h5⟩) w
    · exact walkIn a0 a1 a2 h.1 h.2 hb.2 0 x false true (Lib.hid h2) (Lib.hid h1) (Lib.hid h4) (Lib.hid h3) (.inr (.inl ⟨rfl, rfl, rfl, h5⟩)) w
    · exact walkIn a0 a1 a2 h.1 h.2 hb.2 0 0 false false (Lib.hid h2) (Lib.hid h1) (Lib.hid h4) (Lib.hid h3) (.inr (.inr ⟨rfl, rfl, rfl⟩)) w
  · exact walkOut a0 a1 a2 h w

/-! ### The row's step -/
set_option maxRecDepth 100000 in
theorem lifted (os : Os) (started : os.Started) (H : Type) (enc : TypeId × Value → H) :
    ReturnsInHanded {} Try.checked os 7 .any (Rows.deciMostSpec.pre6 enc Try.prog Try.f7 Rows.deciMostRow.domain false) (Rows.deciMostSpec.post enc Try.prog Try.f7 false true false false) := by
  refine returnsInHanded_of_change (C := Try.checked) own started (by kernel_rfl) Try.func7
    (ChangeSpec.witness6 (enc := enc) (C := Try.checked) false ⟨#[], #[.string ByteArray.empty, .int .i64 0, .int .i64 0], []⟩ 8 (by kernel_rfl) (by kernel_rfl) (by kernel_rfl) (by kernel_rfl)) ?_
  intro W base args ds gs before hval0 hW hcnd _
  have hval : ∀ (j : Nat) t v, Try.f7.params[j]? = some t → args[j]? = some v → Value.okWide Try.prog W .any base t v := hval0
  have hW' := hW
  obtain ⟨p, q, hA0, hV, rfl, hfz, hnd⟩ := hW
  have hA : DataW.TrodAll enc Try.prog W 0 (fun _ => true) true Try.f7.params.toList args.toList ds p := hA0
  rw [Try.params7] at hA hval
  obtain ⟨v0, vs0, d0, ds0, p0, q0, hargs, rfl, rfl, h0, r0⟩ := trodAll_cons hA
  obtain ⟨v1, vs1, d1, ds1, p1, q1, rfl, rfl, rfl, h1, r1⟩ := trodAll_cons r0
  obtain ⟨v2, vs2, d2, ds2, p2, q2, rfl, rfl, rfl, h2, r2⟩ := trodAll_cons r1
  obtain ⟨rfl, rfl, rfl⟩ := trodAll_nil r2
  obtain rfl : args = #[v0, v1, v2] := by cases args; simp_all
  obtain ⟨rfl, rfl⟩ := trodVars_none hV
  obtain ⟨a0, rfl, rfl, rfl, w0⟩ := open_string Try.underlying9 (hval 0 9 v0 rfl rfl) h0
  obtain ⟨a1, rfl, rfl, rfl, w1⟩ := open_int Try.underlying3 (hval 1 3 v1 rfl rfl) h1
  obtain ⟨a2, rfl, rfl, rfl, w2⟩ := open_int Try.underlying3 (hval 2 3 v2 rfl rfl) h2
  clear hA0 hval0
  simp only [List.append_nil] at hW'
  refine (walk a0 a1 a2 w0 w1 w2 W).mono fun e W' ⟨he, hg⟩ => ?_
  subst he
  exact ⟨_, rfl, _, _, _, [], _, [], hW', trodAll_mk1 (shut_bool Try.underlying4 _), (trodAll_cons_mk (shut_string Try.underlying9 w0) (trodAll_cons_mk (shut_int Try.underlying3 w1) (trodAll_cons_mk (shut_int Try.underlying3 w2) trodAll_mk0))), rfl, hg.frame _, fun h => by cases h⟩

theorem over : Rows.deciMostRow.holds Try.pinned (OpenSpec.ofChange Rows.deciMostSpec) :=
  OpenClaim.holds_of_wide 7 Try.f7 rfl rfl rfl rfl rfl rfl rfl ⟨rfl, rfl, rfl, rfl, rfl⟩ rfl rfl rfl rfl rfl (by kernel_rfl) Try.func7 (by kernel_rfl)
    (of_decide_eq_true (by kernel_rfl)) (by unfold Func.isWrapper; first | (rw [if_pos (by decide +kernel)]; kernel_rfl) | (rw [if_neg (by decide +kernel)]; exact ⟨rfl, rfl⟩))
    (fun os started H enc _ => lifted os started H enc)

/-- The statement. -/
theorem proved : Rows.DeciMostSaid :=
  over
#print axioms proved
end Go.Proofs.Ytdmjolmclnnngaa.deciMost
