/-
  The law DeciRead holds for every input: for every text and every number the call returns true and leaves what was there as it was. No condition.
-/
import Derived.Test.YtdmjolmclnnngaaRows
import Derived.WalkKit
import Derived.ProofKit
import Derived.OpenShut
import Derived.ShutString
import Derived.Test.YtdmjolmclnnngaaAwake
namespace Go.Proofs.Ytdmjolmclnnngaa.deciRead
open Go.ChangeShapes Go.WideShapes Go.ChangeAt Go.RowKit
open Go.ChangeMaps (open_string shut_string)
open Go.Shelf
set_option linter.unusedSimpArgs false
set_option linter.unusedVariables false      -- a walk need not use every 'w<i>' (that an integer argument fits its kind)

theorem own : ownKnob Try.prog.godebug = none := by kernel_rfl

theorem show_at (n : Int) (h : -9223372036854775808 ≤ n ∧ n ≤ 9223372036854775807) (x : ByteArray) (hx : (⟨(showI n).toArray⟩ : ByteArray) = x) (w : World) :
    Calls Try.prog 13 #[.int .i64 n] w fun e W' => e = .returned (.string x) ∧ Below w.heap.size w W' := by
  subst hx
  exact show_calls n h.1 h.2 w
theorem read_at (s : ByteArray) (hs : s.size ≤ maxLen) (most : Int) (m1 : most ≤ 9223372036854775807) (x : Int) (b : Bool) (hx : readI s.data.toList most = x) (hb : readB s.data.toList most = b) (w : World) :
    Calls Try.prog 10 #[.string s, .int .i64 most] w fun e W' => e = .returned (.tuple #[.int .i64 x, .bool b]) ∧ Below w.heap.size w W' := by
  subst hx; subst hb
  exact read_calls s hs most m1 w
theorem plain_at (s : ByteArray) (hs : s.size ≤ maxLen) (b : Bool) (hb : plainB s.data.toList = b) (w : World) :
    Calls Try.prog 15 #[.string s] w fun e W' => e = .returned (.bool b) ∧ w = W' := by
  subst hb
  exact plain_any s hs w

set_option maxRecDepth 100000 in
set_option maxHeartbeats 4000000 in
theorem walkOut (s : ByteArray) (d : Int) (h : ¬ (s.size ≤ 15 ∧ 0 ≤ d ∧ d ≤ 9)) (w : World) :
    Calls Try.prog 6 #[.string s, .int .i64 d] w fun e w' => e = .returned (.bool true) ∧ Below w.heap.size w w' := by
  have hc : decide ((15 : Int) < s.size) = true ∨ (decide ((15 : Int) < s.size) = false ∧ decide (d < 0) = true) ∨ (decide ((15 : Int) < s.size) = false ∧ decide (d < 0) = false ∧ decide (9 < d) = true) := by
    simp
    omega
  clear h
  rcases hc with c1 | ⟨c1, c2⟩ | ⟨c1, c2, c3⟩
  all_goals
    go_enter Try.func6, Try.ntmps6
    go_wp2_with fail
    refine (awake_calls _).mono ?_
    rintro e u1 ⟨rfl, hB1⟩
    go_wp2_with fail
    all_goals (go_ret; exact ⟨rfl, hB1⟩)

set_option maxRecDepth 100000 in
set_option maxHeartbeats 4000000 in
theorem walkNo (s : ByteArray) (d : Int) (hs : s.size ≤ 15) (d0 : 0 ≤ d) (d9 : d ≤ 9) (hx : Hid (readI s.data.toList 4611686018427387904 = 0)) (hp : Hid (readB s.data.toList 4611686018427387904 = false)) (hq : Hid (plainB s.data.toList = false)) (w : World) :
    Calls Try.prog 6 #[.string s, .int .i64 d] w fun e w' => e = .returned (.bool true) ∧ Below w.heap.size w w' := by
  have c1 : decide ((15 : Int) < s.size) = false := by simp; omega
  have c2 : decide (d < 0) = false := by simp; omega
  have c3 : decide (9 < d) = false := by simp; omega
  have HM := Lib.hid (show s.size ≤ maxLen by unfold maxLen; omega)
  go_enter Try.func6, Try.ntmps6
  go_wp2_with fail
  refine (awake_calls _).mono ?_
  rintro e u1 ⟨rfl, hB1⟩
  go_wp2_with fail
  refine (read_at s HM.out _ (by omega) _ _ hx.out hp.out _).mono ?_
  rintro e u2 ⟨rfl, hB2⟩
  go_wp2_with fail
  refine (plain_at s HM.out _ hq.out _).mono ?_
  rintro e u ⟨rfl, rfl⟩
  have hB := Lib.hid (below2 hB1 hB2)
  clear hB1 hB2
  go_wp2
  go_ret
  exact ⟨rfl, hB.out⟩

set_option maxRecDepth 100000 in
set_option maxHeartbeats 4000000 in
theorem walkYes (s db sd tb : ByteArray) (d n : Int) (hs : s.size ≤ 15) (d0 : 0 ≤ d) (d9 : d ≤ 9) (n0 : 0 ≤ n) (n1 : n ≤ 1000000000000000) (hx : Hid (readI s.data.toList 4611686018427387904 = n)) (hp : Hid (readB s.data.toList 4611686018427387904 = true))
    (hdb : Hid ((⟨(showI d).toArray⟩ : ByteArray) = db)) (hd1 : db.size = 1) (hsd : s ++ db = sd) (hy : Hid (readI sd.data.toList 4611686018427387904 = 10 * n + d)) (hr : Hid (readB sd.data.toList 4611686018427387904 = true))
    (htb : Hid ((⟨(showI n).toArray⟩ : ByteArray) = tb)) (hts : tb.size ≤ s.size) (ht : ((s.extract (s.size - tb.size) s.size).toList == tb.toList) = true) (w : World) :
    Calls Try.prog 6 #[.string s, .int .i64 d] w fun e w' => e = .returned (.bool true) ∧ Below w.heap.size w w' := by
  have c1 : decide ((15 : Int) < s.size) = false := by simp; omega
  have c2 : decide (d < 0) = false := by simp; omega
  have c3 : decide (9 < d) = false := by simp; omega
  have HM := Lib.hid (show s.size ≤ maxLen by unfold maxLen; omega)
  have HM2 := Lib.hid (show sd.size ≤ maxLen by rw [← hsd, ByteArray.size_append]; unfold maxLen; omega)
  have hdl : db.size ≤ 1 := by omega
  clear hd1
  go_enter Try.func6, Try.ntmps6
  go_wp2_with fail
  refine (awake_calls _).mono ?_
  rintro e u1 ⟨rfl, hB1⟩
  go_wp2_with fail
  refine (read_at s HM.out _ (by omega) _ _ hx.out hp.out _).mono ?_
  rintro e u2 ⟨rfl, hB2⟩
  go_wp2_with fail
  refine (show_at d ⟨by omega, by omega⟩ _ hdb.out _).mono ?_
  rintro e u3 ⟨rfl, hB3⟩
  go_wp2_with fail
  refine (read_at sd HM2.out _ (by omega) _ _ hy.out hr.out _).mono ?_
  rintro e u4 ⟨rfl, hB4⟩
  go_wp2_with fail
  refine (show_at n ⟨by omega, by omega⟩ _ htb.out _).mono ?_
  rintro e u5 ⟨rfl, hB5⟩
  have hB := Lib.hid (below2 (below4 hB1 hB2 hB3 hB4) hB5)
  clear hB1 hB2 hB3 hB4 hB5
  go_wp2
  go_ret
  exact ⟨rfl, hB.out⟩

theorem list_append (s t : ByteArray) : (s ++ t).data.toList = s.data.toList ++ t.data.toList := by
  rw [ByteArray.data_append, Array.toList_append]
theorem list_tail (s : ByteArray) (k : Nat) : (s.extract k s.size).data.toList = s.data.toList.drop k := by
  rw [ByteArray.data_extract, Array.toList_extract, List.extract_eq_take_drop, List.take_of_length_le]
  rw [List.length_drop]
  exact Nat.le_refl _

theorem walk (a0 : ByteArray) (a1 : Int) (w0 : a0.size ≤ maxLen) (w1 : (Lit.int .i64 a1).wf = true) (w : World) :
    Calls Try.prog 6 #[.string a0, .int .i64 a1] w fun e w' => e = .returned (.bool true) ∧ Below w.heap.size w w' := by
  by_cases h : a0.size ≤ 15 ∧ 0 ≤ a1 ∧ a1 ≤ 9
  · obtain ⟨hs, d0, d9⟩ := h
    cases hp : plainB a0.data.toList
    · have hn := read_notplain _ 4611686018427387904 hp
      exact walkNo a0 a1 hs d0 d9 (Lib.hid hn.2) (Lib.hid hn.1) (Lib.hid hp) w
    · obtain ⟨hne, hall⟩ := (plain_iff _).1 hp
      have hlen : a0.data.toList.length = a0.size := rfl
      have hv : valN a0.data.toList < 10 ^ 15 := Nat.lt_of_lt_of_le (valN_lt _ hall) (Nat.pow_le_pow_right (by omega) (by omega))
      have hv' : valN a0.data.toList < 1000000000000000 := hv
      have hr := read_yes _ 4611686018427387904 hp _ rfl (by omega)
      have hsd : showI a1 = [digC a1.toNat] := by rw [showI_nonneg d0, showN_lt (by omega)]
      have hdig := digB_digC a1.toNat (by omega)
      have hl2 : (a0 ++ (⟨(showI a1).toArray⟩ : ByteArray)).data.toList = a0.data.toList ++ [digC a1.toNat] := by rw [list_append, hsd]
      have hp2 : plainB (a0 ++ (⟨(showI a1).toArray⟩ : ByteArray)).data.toList = true := by
        rw [hl2, plain_iff]
        exact ⟨by simp, by rw [List.all_append, hall]; simp [hdig]⟩
      have hv2 : valN (a0 ++ (⟨(showI a1).toArray⟩ : ByteArray)).data.toList = 10 * valN a0.data.toList + a1.toNat := by
        rw [hl2, valN_snoc, digC_toNat _ (by omega)]
        omega
      have hr2 := read_yes _ 4611686018427387904 hp2 _ hv2 (by omega)
      obtain ⟨k, hk⟩ := showN_valN _ hne hall
      have ht : showI (valN a0.data.toList : Int) = showN (valN a0.data.toList) := by rw [showI_nonneg (by omega), Int.toNat_natCast]
      have hkl : a0.size = k + (showN (valN a0.data.toList)).length := by
        rw [← hlen]
        conv => lhs; rw [hk]
        simp
      have hz : (⟨(showI (valN a0.data.toList : Int)).toArray⟩ : ByteArray).size = (showN (valN a0.data.toList)).length := by rw [ht]; rfl
      refine walkYes a0 _ _ _ a1 (valN a0.data.toList : Int) hs d0 d9 (by omega) (by omega) (Lib.hid hr.2) (Lib.hid hr.1) (Lib.hid rfl) (by rw [hsd]; rfl) rfl (Lib.hid ?_) (Lib.hid hr2.1) (Lib.hid rfl) (by omega) ?_ w
      · rw [hr2.2]
        omega
      · rw [ByteArray.toList_eq, ByteArray.toList_eq, list_tail, hz, show a0.size - (showN (valN a0.data.toList)).length = k by omega]
        conv => lhs; lhs; rw [hk]
        rw [List.drop_left' (by simp), ht]
        simp
  · exact walkOut a0 a1 h w

/-! ### The row's step -/
set_option maxRecDepth 100000 in
theorem lifted (os : Os) (started : os.Started) (H : Type) (enc : TypeId × Value → H) :
    ReturnsInHanded {} Try.checked os 6 .any (Rows.deciReadSpec.pre6 enc Try.prog Try.f6 Rows.deciReadRow.domain false) (Rows.deciReadSpec.post enc Try.prog Try.f6 false true false false) := by
  refine returnsInHanded_of_change (C := Try.checked) own started (by kernel_rfl) Try.func6
    (ChangeSpec.witness6 (enc := enc) (C := Try.checked) false ⟨#[], #[.string ByteArray.empty, .int .i64 0], []⟩ 8 (by kernel_rfl) (by kernel_rfl) (by kernel_rfl) (by kernel_rfl)) ?_
  intro W base args ds gs before hval0 hW hcnd _
  have hval : ∀ (j : Nat) t v, Try.f6.params[j]? = some t → args[j]? = some v → Value.okWide Try.prog W .any base t v := hval0
  have hW' := hW
  obtain ⟨p, q, hA0, hV, rfl, hfz, hnd⟩ := hW
  have hA : DataW.TrodAll enc Try.prog W 0 (fun _ => true) true Try.f6.params.toList args.toList ds p := hA0
  rw [Try.params6] at hA hval
  obtain ⟨v0, vs0, d0, ds0, p0, q0, hargs, rfl, rfl, h0, r0⟩ := trodAll_cons hA
  obtain ⟨v1, vs1, d1, ds1, p1, q1, rfl, rfl, rfl, h1, r1⟩ := trodAll_cons r0
  obtain ⟨rfl, rfl, rfl⟩ := trodAll_nil r1
  obtain rfl : args = #[v0, v1] := by cases args; simp_all
  obtain ⟨rfl, rfl⟩ := trodVars_none hV
  obtain ⟨a0, rfl, rfl, rfl, w0⟩ := open_string Try.underlying9 (hval 0 9 v0 rfl rfl) h0
  obtain ⟨a1, rfl, rfl, rfl, w1⟩ := open_int Try.underlying3 (hval 1 3 v1 rfl rfl) h1
  clear hA0 hval0
  simp only [List.append_nil] at hW'
  refine (walk a0 a1 w0 w1 W).mono fun e W' ⟨he, hg⟩ => ?_
  subst he
  exact ⟨_, rfl, _, _, _, [], _, [], hW', trodAll_mk1 (shut_bool Try.underlying4 _), (trodAll_cons_mk (shut_string Try.underlying9 w0) (trodAll_cons_mk (shut_int Try.underlying3 w1) trodAll_mk0)), rfl, hg.frame _, fun h => by cases h⟩

theorem over : Rows.deciReadRow.holds Try.pinned (OpenSpec.ofChange Rows.deciReadSpec) :=
  OpenClaim.holds_of_wide 6 Try.f6 rfl rfl rfl rfl rfl rfl rfl ⟨rfl, rfl, rfl, rfl, rfl⟩ rfl rfl rfl rfl rfl (by kernel_rfl) Try.func6 (by kernel_rfl)
    (of_decide_eq_true (by kernel_rfl)) (by unfold Func.isWrapper; first | (rw [if_pos (by decide +kernel)]; kernel_rfl) | (rw [if_neg (by decide +kernel)]; exact ⟨rfl, rfl⟩))
    (fun os started H enc _ => lifted os started H enc)

/-- The statement. -/
theorem proved : Rows.DeciReadSaid :=
  over
#print axioms proved
end Go.Proofs.Ytdmjolmclnnngaa.deciRead
