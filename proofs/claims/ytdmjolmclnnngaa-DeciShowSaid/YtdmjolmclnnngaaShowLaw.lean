/-
  The law DeciShow holds for every input: for every two numbers the call returns true and leaves what was there as it was. No condition.
-/
import Derived.Test.YtdmjolmclnnngaaRows
import Derived.WalkKit
import Derived.ProofKit
import Derived.OpenShut
import Derived.ShutString
import Derived.Test.YtdmjolmclnnngaaAwake
namespace Go.Proofs.Ytdmjolmclnnngaa.deciShow
open Go.ChangeShapes Go.WideShapes Go.ChangeAt Go.RowKit
open Go.ChangeMaps (open_string shut_string)
open Go.Shelf
set_option linter.unusedSimpArgs false
set_option linter.unusedVariables false      -- a walk need not use every 'w<i>' (that an integer argument fits its kind)

theorem own : ownKnob Try.prog.godebug = none := by kernel_rfl

theorem show_at (n : Int) (h : -9223372036854775808 ≤ n ∧ n ≤ 9223372036854775807) (x : ByteArray) (hx : (⟨(showI n).toArray⟩ : ByteArray) = x) (w : World) :
    Calls Try.prog 13 #[.int .i64 n] w fun e W' => e = .returned (.string x) ∧ Below w.heap.size w W' := by
  subst hx
  exact show_calls n h.1 h.2 w
theorem plain_at (s : ByteArray) (hs : s.size ≤ maxLen) (b : Bool) (hb : plainB s.data.toList = b) (w : World) :
    Calls Try.prog 15 #[.string s] w fun e W' => e = .returned (.bool b) ∧ w = W' := by
  subst hb
  exact plain_any s hs w

/-- Where the byte of number i stands. -/
def AtByte (db : ByteArray) (i : Int) : Prop := decide (i < 0) = true ∨ (decide (i < 0) = false ∧ decide ((db.size : Int) ≤ i) = true) ∨
  ∃ (k : Nat) (h : k < db.size), i = k ∧ decide ((48 : Int) ≤ (db[k].toNat : Int)) = true ∧ decide ((db[k].toNat : Int) ≤ 57) = true
theorem atByte (db : ByteArray) (i : Int) (h : db.data.toList.all digB = true) : AtByte db i := by
  unfold AtByte
  by_cases h1 : i < 0
  · exact .inl (by simpa using h1)
  · by_cases h2 : (db.size : Int) ≤ i
    · exact .inr (.inl ⟨by simpa using h1, by simpa using h2⟩)
    · refine .inr (.inr ⟨i.toNat, by omega, by omega, ?_⟩)
      have hk : i.toNat < db.size := by omega
      have hm : db[i.toNat] ∈ db.data.toList := List.getElem_mem (l := db.data.toList) (n := i.toNat) hk
      have := digB_iff.1 (List.all_eq_true.1 h _ hm)
      simp
      omega

set_option maxRecDepth 100000 in
set_option maxHeartbeats 4000000 in
theorem walkNeg (n i : Int) (hn : decide (n < 0) = true) (hn0 : (n == 0) = false) (n1 : decide (576460752303423488 < n) = false) (hb : Hid (-9223372036854775808 ≤ n ∧ n ≤ 9223372036854775807)) (sb db : ByteArray) (HS : Hid ((⟨(showI n).toArray⟩ : ByteArray) = sb)) (hs0 : 0 < sb.size) (hs1 : sb.size ≤ 20) (hse : sb.toList.isEmpty = false)
    (e0 : ((sb[0].toNat : Int) == 45) = true) (hex : sb.extract 1 sb.size = db) (hd0 : 0 < db.size) (hd1 : db.size ≤ 20) (hde : db.toList.isEmpty = false) (hpl : Hid (plainB db.data.toList = true)) (f0 : ((db[0].toNat : Int) != 48) = true) (ha : AtByte db i)
    (ht : Hid (-576460752303423488 ≤ n → ((⟨(showI (10 * n)).toArray⟩ : ByteArray).toList == (sb ++ (⟨#[48]⟩ : ByteArray)).toList) = true)) (w : World) :
    Calls Try.prog 8 #[.int .i64 n, .int .i64 i] w fun e w' => e = .returned (.bool true) ∧ Below w.heap.size w w' := by
  have HM := Lib.hid (show db.size ≤ maxLen by unfold maxLen; omega)
  have hnn : n < 0 := by simpa using hn
  by_cases h2 : n < -576460752303423488
  · have n2 : decide (n < -576460752303423488) = true := by simpa using h2
    clear h2 hnn
    rcases ha with a1 | ⟨a1, a2⟩ | ⟨k, hk, rfl, a3, a4⟩
    all_goals
      go_enter Try.func8, Try.ntmps8
      go_wp2_with fail
      refine (awake_calls _).mono ?_
      rintro e u1 ⟨rfl, hB1⟩
      go_wp2_with fail
      refine (show_at n hb.out sb HS.out _).mono ?_
      rintro e u2 ⟨rfl, hB2⟩
      have hB := Lib.hid (below2 hB1 hB2)
      clear hB1 hB2
      go_wp2_with fail
      refine (plain_at db HM.out _ hpl.out _).mono ?_
      rintro e u ⟨rfl, rfl⟩
      go_wp2
      go_ret
      exact ⟨rfl, hB.out⟩
  · have n2 : decide (n < -576460752303423488) = false := by simpa using h2
    have n3 : -576460752303423488 ≤ n := by omega
    have ht2 := ht.out n3
    obtain ⟨tb, htb⟩ : ∃ tb, (⟨(showI (10 * n)).toArray⟩ : ByteArray) = tb := ⟨_, rfl⟩
    rw [htb] at ht2
    have HT := Lib.hid htb
    clear htb h2 ht
    rcases ha with a1 | ⟨a1, a2⟩ | ⟨k, hk, rfl, a3, a4⟩
    all_goals
      go_enter Try.func8, Try.ntmps8
      go_wp2_with fail
      refine (awake_calls _).mono ?_
      rintro e u1 ⟨rfl, hB1⟩
      go_wp2_with fail
      refine (show_at n hb.out sb HS.out _).mono ?_
      rintro e u2 ⟨rfl, hB2⟩
      go_wp2_with fail
      refine (show_at (10 * n) ⟨by omega, by omega⟩ tb HT.out _).mono ?_
      rintro e u3 ⟨rfl, hB3⟩
      have hB := Lib.hid (below3 hB1 hB2 hB3)
      clear hB1 hB2 hB3
      go_wp2_with fail
      refine (plain_at db HM.out _ hpl.out _).mono ?_
      rintro e u ⟨rfl, rfl⟩
      go_wp2
      go_ret
      exact ⟨rfl, hB.out⟩

set_option maxRecDepth 100000 in
set_option maxHeartbeats 4000000 in
theorem walkPos (n i : Int) (hn : decide (n < 0) = false) (hn0 : (n == 0) = false) (n2 : decide (n < -576460752303423488) = false) (hb : Hid (-9223372036854775808 ≤ n ∧ n ≤ 9223372036854775807)) (db : ByteArray) (HS : Hid ((⟨(showI n).toArray⟩ : ByteArray) = db))
    (hd0 : 0 < db.size) (hd1 : db.size ≤ 20) (hde : db.toList.isEmpty = false) (e0 : ((db[0].toNat : Int) == 45) = false) (hpl : Hid (plainB db.data.toList = true)) (f0 : ((db[0].toNat : Int) != 48) = true) (ha : AtByte db i)
    (ht : Hid (n ≤ 576460752303423488 → ((⟨(showI (10 * n)).toArray⟩ : ByteArray).toList == (db ++ (⟨#[48]⟩ : ByteArray)).toList) = true)) (w : World) :
    Calls Try.prog 8 #[.int .i64 n, .int .i64 i] w fun e w' => e = .returned (.bool true) ∧ Below w.heap.size w w' := by
  have HM := Lib.hid (show db.size ≤ maxLen by unfold maxLen; omega)
  have hnn : 0 ≤ n := by simpa using hn
  by_cases h2 : 576460752303423488 < n
  · have n1 : decide (576460752303423488 < n) = true := by simpa using h2
    clear h2 hnn
    rcases ha with a1 | ⟨a1, a2⟩ | ⟨k, hk, rfl, a3, a4⟩
    all_goals
      go_enter Try.func8, Try.ntmps8
      go_wp2_with fail
      refine (awake_calls _).mono ?_
      rintro e u1 ⟨rfl, hB1⟩
      go_wp2_with fail
      refine (show_at n hb.out db HS.out _).mono ?_
      rintro e u2 ⟨rfl, hB2⟩
      have hB := Lib.hid (below2 hB1 hB2)
      clear hB1 hB2
      go_wp2_with fail
      refine (plain_at db HM.out _ hpl.out _).mono ?_
      rintro e u ⟨rfl, rfl⟩
      go_wp2
      go_ret
      exact ⟨rfl, hB.out⟩
  · have n1 : decide (576460752303423488 < n) = false := by simpa using h2
    have n3 : n ≤ 576460752303423488 := by omega
    have ht2 := ht.out n3
    obtain ⟨tb, htb⟩ : ∃ tb, (⟨(showI (10 * n)).toArray⟩ : ByteArray) = tb := ⟨_, rfl⟩
    rw [htb] at ht2
    have HT := Lib.hid htb
    clear htb h2 ht
    rcases ha with a1 | ⟨a1, a2⟩ | ⟨k, hk, rfl, a3, a4⟩
    all_goals
      go_enter Try.func8, Try.ntmps8
      go_wp2_with fail
      refine (awake_calls _).mono ?_
      rintro e u1 ⟨rfl, hB1⟩
      go_wp2_with fail
      refine (show_at n hb.out db HS.out _).mono ?_
      rintro e u2 ⟨rfl, hB2⟩
      go_wp2_with fail
      refine (show_at (10 * n) ⟨by omega, by omega⟩ tb HT.out _).mono ?_
      rintro e u3 ⟨rfl, hB3⟩
      have hB := Lib.hid (below3 hB1 hB2 hB3)
      clear hB1 hB2 hB3
      go_wp2_with fail
      refine (plain_at db HM.out _ hpl.out _).mono ?_
      rintro e u ⟨rfl, rfl⟩
      go_wp2
      go_ret
      exact ⟨rfl, hB.out⟩

theorem ex_plain0 : plainB (⟨#[48]⟩ : ByteArray).data.toList = true := by decide +kernel
set_option maxRecDepth 100000 in
set_option maxHeartbeats 4000000 in
theorem walkZero (i : Int) (ha : decide (i < 0) = true ∨ (decide (i < 0) = false ∧ decide (1 ≤ i) = true) ∨ i = 0) (w : World) :
    Calls Try.prog 8 #[.int .i64 0, .int .i64 i] w fun e w' => e = .returned (.bool true) ∧ Below w.heap.size w w' := by
  rcases ha with a1 | ⟨a1, a2⟩ | rfl
  all_goals
    go_enter Try.func8, Try.ntmps8
    go_wp2_with fail
    refine (awake_calls _).mono ?_
    rintro e u1 ⟨rfl, hB1⟩
    go_wp2_with fail
    refine (ex_show2 _).mono ?_
    rintro e u2 ⟨rfl, hB2⟩
    have hB := Lib.hid (below2 hB1 hB2)
    clear hB1 hB2
    go_wp2_with fail
    refine (plain_at ⟨#[48]⟩ (by decide +kernel) _ ex_plain0 _).mono ?_
    rintro e u ⟨rfl, rfl⟩
    go_wp2
    go_ret
    exact ⟨rfl, hB.out⟩

theorem list_append (s t : ByteArray) : (s ++ t).data.toList = s.data.toList ++ t.data.toList := by
  rw [ByteArray.data_append, Array.toList_append]
theorem isEmpty_pos (s : ByteArray) (h : 0 < s.size) : s.toList.isEmpty = false := by
  rw [isEmpty_iff]
  exact decide_eq_false (by omega)
theorem byte_ne {c : UInt8} {k : UInt8} (h : c ≠ k) : (c.toNat : Int) ≠ (k.toNat : Int) := fun e => h (UInt8.toNat_inj.1 (by omega))
theorem first_at {s : ByteArray} {c : UInt8} {r : List UInt8} (h : s.data.toList = c :: r) (h0 : 0 < s.size) : s[0] = c := by
  have := first_cons s h0
  rw [h] at this
  exact (List.cons.inj this).1.symm
theorem first_tail {s : ByteArray} {c : UInt8} {r : List UInt8} (h : s.data.toList = c :: r) (h0 : 0 < s.size) : (s.extract 1 s.size).data.toList = r := by
  have := first_cons s h0
  rw [h] at this
  exact (List.cons.inj this).2.symm
theorem ten_shown (n : Int) (h : n ≠ 0) : showI (10 * n) = showI n ++ [48] := by
  by_cases hn : n < 0
  · rw [showI_neg hn, showI_neg (by omega), show (10 * n).natAbs = 10 * n.natAbs by omega, showN_ten _ (by omega)]
    rfl
  · rw [showI_nonneg (by omega), showI_nonneg (by omega), show (10 * n).toNat = 10 * n.toNat by omega, showN_ten _ (by omega)]
theorem ten_text (n : Int) (h : n ≠ 0) : ((⟨(showI (10 * n)).toArray⟩ : ByteArray).toList == ((⟨(showI n).toArray⟩ : ByteArray) ++ (⟨#[48]⟩ : ByteArray)).toList) = true := by
  rw [ByteArray.toList_eq, ByteArray.toList_eq, list_append, ten_shown n h]
  simp

theorem walk (a0 : Int) (a1 : Int) (w0 : (Lit.int .i64 a0).wf = true) (w1 : (Lit.int .i64 a1).wf = true) (w : World) :
    Calls Try.prog 8 #[.int .i64 a0, .int .i64 a1] w fun e w' => e = .returned (.bool true) ∧ Below w.heap.size w w' := by
  have hb := bounds_i64 w0
  have hl := showI_len a0 hb.1 hb.2
  by_cases hz : a0 = 0
  · subst hz
    refine walkZero a1 ?_ w
    simp
    omega
  · have hsz : (⟨(showI a0).toArray⟩ : ByteArray).size = (showI a0).length := rfl
    by_cases hn : a0 < 0
    · obtain ⟨c, r, hr, hc⟩ := showN_head a0.natAbs (by omega)
      have hall := showN_all a0.natAbs
      have hll : (⟨(showI a0).toArray⟩ : ByteArray).data.toList = 45 :: showN a0.natAbs := showI_neg hn
      have hs0 : 0 < (⟨(showI a0).toArray⟩ : ByteArray).size := by omega
      have hdl := first_tail hll hs0
      have hdz : ((⟨(showI a0).toArray⟩ : ByteArray).extract 1 (⟨(showI a0).toArray⟩ : ByteArray).size).size = (showN a0.natAbs).length := by rw [← hdl]; rfl
      have hpos := showN_pos a0.natAbs
      have hlen : (showI a0).length = (showN a0.natAbs).length + 1 := by rw [showI_neg hn]; rfl
      refine walkNeg a0 a1 (by simpa using hn) (by simpa using hz) (by simp; omega) (Lib.hid hb) _ _ (Lib.hid rfl) hs0 (by omega) (isEmpty_pos _ hs0) ?_ rfl (by omega) (by omega) (isEmpty_pos _ (by omega)) (Lib.hid ?_) ?_ (atByte _ _ ?_) (Lib.hid fun _ => ten_text a0 hz) w
      · rw [first_at hll hs0]; rfl
      · rw [hdl]; exact showN_plain _
      · rw [first_at (hdl.trans hr) (by omega)]
        simpa using byte_ne hc
      · rw [hdl]; exact hall
    · obtain ⟨c, r, hr, hc⟩ := showN_head a0.toNat (by omega)
      have hll : (⟨(showI a0).toArray⟩ : ByteArray).data.toList = showN a0.toNat := showI_nonneg (by omega)
      have hs0 : 0 < (⟨(showI a0).toArray⟩ : ByteArray).size := by omega
      have h45 : c ≠ 45 := by
        intro e
        have := head_digit hr
        rw [e] at this
        revert this
        decide
      refine walkPos a0 a1 (by simpa using hn) (by simpa using hz) (by simp; omega) (Lib.hid hb) _ (Lib.hid rfl) hs0 (by omega) (isEmpty_pos _ hs0) ?_ (Lib.hid ?_) ?_ (atByte _ _ ?_) (Lib.hid fun _ => ten_text a0 hz) w
      · rw [first_at (hll.trans hr) hs0]
        simpa using byte_ne h45
      · rw [hll]; exact showN_plain _
      · rw [first_at (hll.trans hr) hs0]
        simpa using byte_ne hc
      · rw [hll]; exact showN_all _

/-! ### The row's step -/
set_option maxRecDepth 100000 in
theorem lifted (os : Os) (started : os.Started) (H : Type) (enc : TypeId × Value → H) :
    ReturnsInHanded {} Try.checked os 8 .any (Rows.deciShowSpec.pre6 enc Try.prog Try.f8 Rows.deciShowRow.domain false) (Rows.deciShowSpec.post enc Try.prog Try.f8 false true false false) := by
  refine returnsInHanded_of_change (C := Try.checked) own started (by kernel_rfl) Try.func8
    (ChangeSpec.witness6 (enc := enc) (C := Try.checked) false ⟨#[], #[.int .i64 0, .int .i64 0], []⟩ 8 (by kernel_rfl) (by kernel_rfl) (by kernel_rfl) (by kernel_rfl)) ?_
  intro W base args ds gs before hval0 hW hcnd _
  have hval : ∀ (j : Nat) t v, Try.f8.params[j]? = some t → args[j]? = some v → Value.okWide Try.prog W .any base t v := hval0
  have hW' := hW
  obtain ⟨p, q, hA0, hV, rfl, hfz, hnd⟩ := hW
  have hA : DataW.TrodAll enc Try.prog W 0 (fun _ => true) true Try.f8.params.toList args.toList ds p := hA0
  rw [Try.params8] at hA hval
  obtain ⟨v0, vs0, d0, ds0, p0, q0, hargs, rfl, rfl, h0, r0⟩ := trodAll_cons hA
  obtain ⟨v1, vs1, d1, ds1, p1, q1, rfl, rfl, rfl, h1, r1⟩ := trodAll_cons r0
  obtain ⟨rfl, rfl, rfl⟩ := trodAll_nil r1
  obtain rfl : args = #[v0, v1] := by cases args; simp_all
  obtain ⟨rfl, rfl⟩ := trodVars_none hV
  obtain ⟨a0, rfl, rfl, rfl, w0⟩ := open_int Try.underlying3 (hval 0 3 v0 rfl rfl) h0
  obtain ⟨a1, rfl, rfl, rfl, w1⟩ := open_int Try.underlying3 (hval 1 3 v1 rfl rfl) h1
  clear hA0 hval0
  simp only [List.append_nil] at hW'
  refine (walk a0 a1 w0 w1 W).mono fun e W' ⟨he, hg⟩ => ?_
  subst he
  exact ⟨_, rfl, _, _, _, [], _, [], hW', trodAll_mk1 (shut_bool Try.underlying4 _), (trodAll_cons_mk (shut_int Try.underlying3 w0) (trodAll_cons_mk (shut_int Try.underlying3 w1) trodAll_mk0)), rfl, hg.frame _, fun h => by cases h⟩

theorem over : Rows.deciShowRow.holds Try.pinned (OpenSpec.ofChange Rows.deciShowSpec) :=
  OpenClaim.holds_of_wide 8 Try.f8 rfl rfl rfl rfl rfl rfl rfl ⟨rfl, rfl, rfl, rfl, rfl⟩ rfl rfl rfl rfl rfl (by kernel_rfl) Try.func8 (by kernel_rfl)
    (of_decide_eq_true (by kernel_rfl)) (by unfold Func.isWrapper; first | (rw [if_pos (by decide +kernel)]; kernel_rfl) | (rw [if_neg (by decide +kernel)]; exact ⟨rfl, rfl⟩))
    (fun os started H enc _ => lifted os started H enc)

/-- The statement. -/
theorem proved : Rows.DeciShowSaid :=
  over
#print axioms proved
end Go.Proofs.Ytdmjolmclnnngaa.deciShow
