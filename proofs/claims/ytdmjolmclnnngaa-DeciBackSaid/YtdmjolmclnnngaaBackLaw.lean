/-
  The law DeciBack holds for every input: for every three numbers the call returns true and leaves what was there as it was. No condition.
-/
import Derived.Test.YtdmjolmclnnngaaRows
import Derived.WalkKit
import Derived.ProofKit
import Derived.OpenShut
import Derived.ShutString
import Derived.Test.YtdmjolmclnnngaaAwake
namespace Go.Proofs.Ytdmjolmclnnngaa.deciBack
open Go.ChangeShapes Go.WideShapes Go.ChangeAt Go.RowKit
open Go.ChangeMaps (open_string shut_string)
open Go.Shelf
set_option linter.unusedSimpArgs false
set_option linter.unusedVariables false      -- a walk need not use every 'w<i>' (that an integer argument fits its kind)

theorem own : ownKnob Try.prog.godebug = none := by kernel_rfl

theorem show_at (n : Int) (h : -9223372036854775808 ≤ n ∧ n ≤ 9223372036854775807) (x : ByteArray) (hx : (⟨(showI n).toArray⟩ : ByteArray) = x) (w : World) :
    Calls Try.prog 13 #[.int .i64 n] w fun e W' => e = .returned (.string x) ∧ Below w.heap.size w W' := by
  subst hx
  exact show_calls n h.1 h.2 w
theorem read_at (s : ByteArray) (hs : s.size ≤ maxLen) (most : Int) (m1 : most ≤ 9223372036854775807) (x : Int) (b : Bool) (hx : readI s.data.toList most = x) (hb : readB s.data.toList most = b) (w : World) :
    Calls Try.prog 10 #[.string s, .int .i64 most] w fun e W' => e = .returned (.tuple #[.int .i64 x, .bool b]) ∧ Below w.heap.size w W' := by
  subst hx; subst hb
  exact read_calls s hs most m1 w
theorem plain_at (s : ByteArray) (hs : s.size ≤ maxLen) (b : Bool) (hb : plainB s.data.toList = b) (w : World) :
    Calls Try.prog 15 #[.string s] w fun e W' => e = .returned (.bool b) ∧ w = W' := by
  subst hb
  exact plain_any s hs w
theorem list_append (s t : ByteArray) : (s ++ t).data.toList = s.data.toList ++ t.data.toList := by
  rw [ByteArray.data_append, Array.toList_append]

set_option maxRecDepth 100000 in
set_option maxHeartbeats 4000000 in
theorem walkOut (n most z : Int) (h : ¬ (0 ≤ z ∧ z ≤ 60)) (w : World) :
    Calls Try.prog 4 #[.int .i64 n, .int .i64 most, .int .i64 z] w fun e w' => e = .returned (.bool true) ∧ Below w.heap.size w w' := by
  have hc : decide (z < 0) = true ∨ (decide (z < 0) = false ∧ decide (60 < z) = true) := by
    simp
    omega
  clear h
  rcases hc with c1 | ⟨c1, c2⟩
  all_goals
    go_enter Try.func4, Try.ntmps4
    go_wp2_with fail
    refine (awake_calls _).mono ?_
    rintro e u1 ⟨rfl, hB1⟩
    go_wp2_with fail
    all_goals (go_ret; exact ⟨rfl, hB1⟩)

set_option maxRecDepth 100000 in
set_option maxHeartbeats 4000000 in
theorem walkNeg (n most z : Int) (z0 : 0 ≤ z) (z1 : z ≤ 60) (hn : n < 0) (hb : Hid (-9223372036854775808 ≤ n ∧ n ≤ 9223372036854775807)) (m1 : most ≤ 9223372036854775807) (sb : ByteArray) (HS : Hid ((⟨(showI n).toArray⟩ : ByteArray) = sb)) (hm : Hid (sb.size ≤ maxLen))
    (hx : Hid (readI sb.data.toList most = 0)) (hp : Hid (readB sb.data.toList most = false)) (hq : Hid (plainB sb.data.toList = false)) (w : World) :
    Calls Try.prog 4 #[.int .i64 n, .int .i64 most, .int .i64 z] w fun e w' => e = .returned (.bool true) ∧ Below w.heap.size w w' := by
  have c1 : decide (z < 0) = false := by simp; omega
  have c2 : decide (60 < z) = false := by simp; omega
  have c3 : decide (n < 0) = true := by simpa using hn
  go_enter Try.func4, Try.ntmps4
  go_wp2_with fail
  refine (awake_calls _).mono ?_
  rintro e u1 ⟨rfl, hB1⟩
  go_wp2_with fail
  refine (show_at n hb.out sb HS.out _).mono ?_
  rintro e u2 ⟨rfl, hB2⟩
  go_wp2_with fail
  refine (read_at sb hm.out most m1 _ _ hx.out hp.out _).mono ?_
  rintro e u3 ⟨rfl, hB3⟩
  go_wp2_with fail
  refine (plain_at sb hm.out _ hq.out _).mono ?_
  rintro e u ⟨rfl, rfl⟩
  have hB := Lib.hid (below3 hB1 hB2 hB3)
  clear hB1 hB2 hB3
  go_wp2
  go_ret
  exact ⟨rfl, hB.out⟩

theorem zeros_more (c : ByteArray) (k : Nat) (l : List UInt8) (h : c.data.toList = List.replicate k 48 ++ l) : ((⟨#[48]⟩ : ByteArray) ++ c).data.toList = List.replicate (k + 1) 48 ++ l := by
  rw [list_append, h, List.replicate_succ]
  rfl
theorem zeros_plain (k : Nat) (N : Nat) : plainB (List.replicate k 48 ++ showN N) = true := by
  rw [plain_iff]
  refine ⟨by have := showN_ne N; simp [this], ?_⟩
  rw [List.all_append, showN_all, Bool.and_true, List.all_replicate]
  split <;> rfl

set_option maxRecDepth 100000 in
set_option maxHeartbeats 4000000 in
theorem walkPos (n most z : Int) (z0 : 0 ≤ z) (z1 : z ≤ 60) (hn : 0 ≤ n) (hb : Hid (-9223372036854775808 ≤ n ∧ n ≤ 9223372036854775807)) (m1 : most ≤ 9223372036854775807) (sb : ByteArray) (HS : Hid ((⟨(showI n).toArray⟩ : ByteArray) = sb)) (hm : sb.size ≤ 20)
    (hl : Hid (sb.data.toList = showN n.toNat)) (w : World) :
    Calls Try.prog 4 #[.int .i64 n, .int .i64 most, .int .i64 z] w fun e w' => e = .returned (.bool true) ∧ Below w.heap.size w w' := by
  have c1 : decide (z < 0) = false := by simp; omega
  have c2 : decide (60 < z) = false := by simp; omega
  have c3 : decide (n < 0) = false := by simp; omega
  go_enter Try.func4, Try.ntmps4
  go_wp2_with fail
  refine (awake_calls _).mono ?_
  rintro e u1 ⟨rfl, hB1⟩
  go_wp2_with fail
  refine (show_at n hb.out sb HS.out _).mono ?_
  rintro e u2 ⟨rfl, hB2⟩
  have hB := Lib.hid (below2 hB1 hB2)
  clear hB1 hB2
  go_wp2_with fail
  go_loop [8, 11] (fun v i => ∃ (k : Nat) (c : ByteArray), v = .string c ∧ i = .int .i64 k ∧ (k : Int) ≤ z ∧ c.size ≤ 20 + k ∧ Hid (c.data.toList = List.replicate k 48 ++ showN n.toNat)) (fun _ i => (z - intOf i).toNat)
  case atStart => exact ⟨0, sb, rfl, rfl, by omega, by omega, Lib.hid (by simpa using hl.out)⟩
  case round =>
    obtain ⟨k, c, rfl, rfl, hk, hcs, hc⟩ := hrel
    by_cases hlt : (k : Int) < z
    · have e0 : decide ((k : Int) < z) = true := by simpa using hlt
      have hnext := Lib.hid (zeros_more c k _ hc.out)
      go_wp2
      go_round
      case rel => exact ⟨k + 1, _, rfl, by go_num, by omega, by rw [ByteArray.size_append]; show 1 + c.size ≤ _; omega, hnext⟩
      case measure => simp [intOf]; omega
    · have e0 : decide ((k : Int) < z) = false := by simpa using hlt
      have hM := Lib.hid (show c.size ≤ maxLen by unfold maxLen; omega)
      have hpl := Lib.hid (show plainB c.data.toList = true by rw [hc.out]; exact zeros_plain _ _)
      have hv := Lib.hid (show valN c.data.toList = n.toNat by rw [hc.out, valF_zeros, valN_showN])
      by_cases hle : n ≤ most
      · have e1 : decide (n ≤ most) = true := by simpa using hle
        have hr := Lib.hid (read_yes _ most hpl.out n.toNat hv.out (by omega))
        have hr2 := Lib.hid (hr.out.2.trans (show ((n.toNat : Nat) : Int) = n by omega))
        clear hle hlt hk
        go_wp2_with fail
        refine (read_at c hM.out most m1 _ _ hr2.out hr.out.1 _).mono ?_
        rintro e u3 ⟨rfl, hB3⟩
        go_wp2_with fail
        refine (plain_at c hM.out _ hpl.out _).mono ?_
        rintro e u ⟨rfl, rfl⟩
        have hB2 := Lib.hid (below2 hB.out hB3)
        clear hB3
        go_wp2
        go_ret
        exact ⟨rfl, hB2.out⟩
      · have e1 : decide (n ≤ most) = false := by simpa using hle
        have hr := Lib.hid (read_no _ most hpl.out n.toNat (by rw [hv.out]; exact Nat.le_refl _) (by omega))
        clear hle hlt hk
        go_wp2_with fail
        refine (read_at c hM.out most m1 _ _ hr.out.2 hr.out.1 _).mono ?_
        rintro e u3 ⟨rfl, hB3⟩
        go_wp2_with fail
        refine (plain_at c hM.out _ hpl.out _).mono ?_
        rintro e u ⟨rfl, rfl⟩
        have hB2 := Lib.hid (below2 hB.out hB3)
        clear hB3
        go_wp2
        go_ret
        exact ⟨rfl, hB2.out⟩

theorem walk (a0 : Int) (a1 : Int) (a2 : Int) (w0 : (Lit.int .i64 a0).wf = true) (w1 : (Lit.int .i64 a1).wf = true) (w2 : (Lit.int .i64 a2).wf = true) (w : World) :
    Calls Try.prog 4 #[.int .i64 a0, .int .i64 a1, .int .i64 a2] w fun e w' => e = .returned (.bool true) ∧ Below w.heap.size w w' := by
  have hb := bounds_i64 w0
  have hm := bounds_i64 w1
  have hl := showI_len a0 hb.1 hb.2
  have hz : (⟨(showI a0).toArray⟩ : ByteArray).size = (showI a0).length := rfl
  by_cases h : 0 ≤ a2 ∧ a2 ≤ 60
  · by_cases hn : a0 < 0
    · have hq : plainB (showI a0) = false := by rw [showI_neg hn]; rfl
      have hr := read_notplain (showI a0) a1 hq
      exact walkNeg a0 a1 a2 h.1 h.2 hn (Lib.hid hb) hm.2 _ (Lib.hid rfl) (Lib.hid (by unfold maxLen; omega)) (Lib.hid hr.2) (Lib.hid hr.1) (Lib.hid hq) w
    · exact walkPos a0 a1 a2 h.1 h.2 (by omega) (Lib.hid hb) hm.2 _ (Lib.hid rfl) (by omega) (Lib.hid (showI_nonneg (by omega))) w
  · exact walkOut a0 a1 a2 h w

/-! ### The row's step -/
set_option maxRecDepth 100000 in
theorem lifted (os : Os) (started : os.Started) (H : Type) (enc : TypeId × Value → H) :
    ReturnsInHanded {} Try.checked os 4 .any (Rows.deciBackSpec.pre6 enc Try.prog Try.f4 Rows.deciBackRow.domain false) (Rows.deciBackSpec.post enc Try.prog Try.f4 false true false false) := by
  refine returnsInHanded_of_change (C := Try.checked) own started (by kernel_rfl) Try.func4
    (ChangeSpec.witness6 (enc := enc) (C := Try.checked) false ⟨#[], #[.int .i64 0, .int .i64 0, .int .i64 0], []⟩ 8 (by kernel_rfl) (by kernel_rfl) (by kernel_rfl) (by kernel_rfl)) ?_
  intro W base args ds gs before hval0 hW hcnd _
  have hval : ∀ (j : Nat) t v, Try.f4.params[j]? = some t → args[j]? = some v → Value.okWide Try.prog W .any base t v := hval0
  have hW' := hW
  obtain ⟨p, q, hA0, hV, rfl, hfz, hnd⟩ := hW
  have hA : DataW.TrodAll enc Try.prog W 0 (fun _ => true) true Try.f4.params.toList args.toList ds p := hA0
  rw [Try.params4] at hA hval
  obtain ⟨v0, vs0, d0, ds0, p0, q0, hargs, rfl, rfl, h0, r0⟩ := trodAll_cons hA
  obtain ⟨v1, vs1, d1, ds1, p1, q1, rfl, rfl, rfl, h1, r1⟩ := trodAll_cons r0
  obtain ⟨v2, vs2, d2, ds2, p2, q2, rfl, rfl, rfl, h2, r2⟩ := trodAll_cons r1
  obtain ⟨rfl, rfl, rfl⟩ := trodAll_nil r2
  obtain rfl : args = #[v0, v1, v2] := by cases args; simp_all
  obtain ⟨rfl, rfl⟩ := trodVars_none hV
  obtain ⟨a0, rfl, rfl, rfl, w0⟩ := open_int Try.underlying3 (hval 0 3 v0 rfl rfl) h0
  obtain ⟨a1, rfl, rfl, rfl, w1⟩ := open_int Try.underlying3 (hval 1 3 v1 rfl rfl) h1
  obtain ⟨a2, rfl, rfl, rfl, w2⟩ := open_int Try.underlying3 (hval 2 3 v2 rfl rfl) h2
  clear hA0 hval0
  simp only [List.append_nil] at hW'
  refine (walk a0 a1 a2 w0 w1 w2 W).mono fun e W' ⟨he, hg⟩ => ?_
  subst he
  exact ⟨_, rfl, _, _, _, [], _, [], hW', trodAll_mk1 (shut_bool Try.underlying4 _), (trodAll_cons_mk (shut_int Try.underlying3 w0) (trodAll_cons_mk (shut_int Try.underlying3 w1) (trodAll_cons_mk (shut_int Try.underlying3 w2) trodAll_mk0))), rfl, hg.frame _, fun h => by cases h⟩

theorem over : Rows.deciBackRow.holds Try.pinned (OpenSpec.ofChange Rows.deciBackSpec) :=
  OpenClaim.holds_of_wide 4 Try.f4 rfl rfl rfl rfl rfl rfl rfl ⟨rfl, rfl, rfl, rfl, rfl⟩ rfl rfl rfl rfl rfl (by kernel_rfl) Try.func4 (by kernel_rfl)
    (of_decide_eq_true (by kernel_rfl)) (by unfold Func.isWrapper; first | (rw [if_pos (by decide +kernel)]; kernel_rfl) | (rw [if_neg (by decide +kernel)]; exact ⟨rfl, rfl⟩))
    (fun os started H enc _ => lifted os started H enc)

/-- The statement. -/
theorem proved : Rows.DeciBackSaid :=
  over
#print axioms proved
end Go.Proofs.Ytdmjolmclnnngaa.deciBack
