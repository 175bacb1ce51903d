/-
  The law PctParts holds for every input: for every two texts and every number of a set the call returns true and leaves what was there as it was. No condition.
-/
import Derived.Test.YtpbcienekjnelaaRows
import Derived.WalkKit
import Derived.ProofKit
import Derived.OpenShut
import Derived.ShutString
import Derived.Test.YtpbcienekjnelaaPAwake
namespace Go.Proofs.Ytpbcienekjnelaa.pctParts
open Go.ChangeShapes Go.WideShapes Go.ChangeAt Go.RowKit
open Go.ChangeMaps (open_string shut_string)
open Go.Shelf
open Go.Proofs.Ytpbcienekjnelaa.Pct
set_option linter.unusedSimpArgs false
set_option linter.unusedVariables false      -- a walk need not use every 'w<i>' (that an integer argument fits its kind)

theorem own : ownKnob Try.prog.godebug = none := by kernel_rfl

theorem ends_spec : ∀ l : List UInt8, endsB l = true → (0 < l.length ∧ l.getD (l.length - 1) 0 = 37) ∨ (1 < l.length ∧ l.getD (l.length - 2) 0 = 37)
  | [], h => by cases h
  | [a], h => by simp [endsB] at h; subst h; exact .inl ⟨by simp, rfl⟩
  | [a, b], h => by
    simp [endsB] at h
    rcases h with rfl | rfl
    · exact .inr ⟨by simp, rfl⟩
    · exact .inl ⟨by simp, rfl⟩
  | a :: b :: c :: r, h => by
    rcases ends_spec (b :: c :: r) h with ⟨h1, h2⟩ | ⟨h1, h2⟩
    · refine .inl ⟨by simp, ?_⟩
      have e : (a :: b :: c :: r).length - 1 = ((b :: c :: r).length - 1) + 1 := by simp
      rw [e]
      exact h2
    · refine .inr ⟨by simp, ?_⟩
      have e : (a :: b :: c :: r).length - 2 = ((b :: c :: r).length - 2) + 1 := by simp
      rw [e]
      exact h2
theorem getD_at (s : ByteArray) (k : Nat) (h : k < s.size) : s.data.toList.getD k 0 = s[k] := by
  rw [List.getD_eq_getElem?_getD, List.getElem?_eq_getElem (show k < s.data.toList.length from h)]; rfl
set_option maxRecDepth 100000 in
set_option maxHeartbeats 4000000 in
theorem walkOut (a b : ByteArray) (set : Int) (h : decide ((300 : Int) < a.size) = true ∨ (decide ((300 : Int) < a.size) = false ∧ decide ((300 : Int) < b.size) = true)) (w : World) :
    Calls Try.prog 7 #[.string a, .string b, .int .i64 set] w fun e w' => e = .returned (.bool true) ∧ Below w.heap.size w w' := by
  rcases h with h | ⟨h, h2⟩
  all_goals
    go_enter Try.func7, Try.ntmps7
    go_wp2_with fail
    refine (awake_at (Below.refl _ w)).mono ?_
    rintro e u ⟨rfl, hB⟩
    go_wp2_with fail
    go_ret
    exact ⟨rfl, hB⟩

/-- How the first text ends, as the law asks it. -/
def Ends (a : ByteArray) : Prop := ∃ h : 0 < a.size, ((a[a.size - 1].toNat : Int) == 37) = true ∨ (((a[a.size - 1].toNat : Int) == 37) = false ∧ ∃ h2 : 1 < a.size, ((a[a.size - 2].toNat : Int) == 37) = true)
def EndsNot (a : ByteArray) : Prop := Hid (a.size = 0) ∨ (∃ h : 0 < a.size, ((a[a.size - 1].toNat : Int) == 37) = false ∧ (Hid (a.size = 1) ∨ ∃ h2 : 1 < a.size, ((a[a.size - 2].toNat : Int) == 37) = false))

set_option maxRecDepth 100000 in
set_option maxHeartbeats 4000000 in
theorem walkEnds (a b : ByteArray) (set : Int) (h : decide ((300 : Int) < a.size) = false) (h2 : decide ((300 : Int) < b.size) = false) (ha : a.size ≤ 300) (hb : b.size ≤ 300) (he : Ends a)
    (xab xa xb : ByteArray) (HAB : Hid ((⟨(encode set (a ++ b).data.toList).toArray⟩ : ByteArray) = xab)) (HA : Hid ((⟨(encode set a.data.toList).toArray⟩ : ByteArray) = xa)) (HB : Hid ((⟨(encode set b.data.toList).toArray⟩ : ByteArray) = xb))
    (lab : (a ++ b).size ≤ 600) (lxa : xa.size ≤ 900) (lxb : xb.size ≤ 900) (ex : (xab.toList == (xa ++ xb).toList) = true) (w : World) :
    Calls Try.prog 7 #[.string a, .string b, .int .i64 set] w fun e w' => e = .returned (.bool true) ∧ Below w.heap.size w w' := by
  obtain ⟨k0, hk⟩ := he
  have t0 : decide ((0 : Int) < a.size) = true := by simp; omega
  rcases hk with e1 | ⟨e1, k1, e2⟩
  all_goals
    try have t1 : decide ((1 : Int) < a.size) = true := by simp; omega
    go_enter Try.func7, Try.ntmps7
    go_wp2_with fail
    refine (awake_at (Below.refl _ w)).mono ?_
    rintro e u ⟨rfl, hB⟩
    go_wp2_with fail
    refine (encode_at (a ++ b) (by omega) set xab HAB.out hB).mono ?_
    rintro e u2 ⟨rfl, hB2⟩
    go_wp2_with fail
    refine (encode_at a (by omega) set xa HA.out hB2).mono ?_
    rintro e u3 ⟨rfl, hB3⟩
    go_wp2_with fail
    refine (encode_at b (by omega) set xb HB.out hB3).mono ?_
    rintro e u4 ⟨rfl, hB4⟩
    go_wp2
    go_ret
    exact ⟨rfl, hB4⟩

set_option maxRecDepth 100000 in
set_option maxHeartbeats 4000000 in
theorem walkNot (a b : ByteArray) (set : Int) (h : decide ((300 : Int) < a.size) = false) (h2 : decide ((300 : Int) < b.size) = false) (ha : a.size ≤ 300) (hb : b.size ≤ 300) (he : EndsNot a)
    (xab xa xb dab da db : ByteArray) (HAB : Hid ((⟨(encode set (a ++ b).data.toList).toArray⟩ : ByteArray) = xab)) (HA : Hid ((⟨(encode set a.data.toList).toArray⟩ : ByteArray) = xa)) (HB : Hid ((⟨(encode set b.data.toList).toArray⟩ : ByteArray) = xb))
    (DAB : Hid ((⟨(Pct.decode (a ++ b).data.toList).toArray⟩ : ByteArray) = dab)) (DA : Hid ((⟨(Pct.decode a.data.toList).toArray⟩ : ByteArray) = da)) (DB : Hid ((⟨(Pct.decode b.data.toList).toArray⟩ : ByteArray) = db))
    (lab : (a ++ b).size ≤ 600) (lxa : xa.size ≤ 900) (lxb : xb.size ≤ 900) (lda : da.size ≤ 300) (ldb : db.size ≤ 300) (ex : (xab.toList == (xa ++ xb).toList) = true) (ed : (dab.toList == (da ++ db).toList) = true) (w : World) :
    Calls Try.prog 7 #[.string a, .string b, .int .i64 set] w fun e w' => e = .returned (.bool true) ∧ Below w.heap.size w w' := by
  have hw : (decide ((0 : Int) < a.size) = false ∧ decide (0 < a.size) = false ∧ decide ((1 : Int) < a.size) = false ∧ decide (1 < a.size) = false) ∨
      ((∃ h : 0 < a.size, ((a[a.size - 1].toNat : Int) == 37) = false) ∧ decide ((1 : Int) < a.size) = false ∧ decide (1 < a.size) = false) ∨ ((∃ h : 0 < a.size, ((a[a.size - 1].toNat : Int) == 37) = false) ∧ ∃ h2 : 1 < a.size, ((a[a.size - 2].toNat : Int) == 37) = false) := by
    rcases he with t0 | ⟨k0, e1, t1 | ⟨k1, e2⟩⟩
    · have := t0.out
      exact .inl ⟨decide_eq_false (by omega), decide_eq_false (by omega), decide_eq_false (by omega), decide_eq_false (by omega)⟩
    · have := t1.out
      exact .inr (.inl ⟨⟨k0, e1⟩, decide_eq_false (by omega), decide_eq_false (by omega)⟩)
    · exact .inr (.inr ⟨⟨k0, e1⟩, k1, e2⟩)
  clear he
  rcases hw with ⟨t0, t1, t2, t3⟩ | ⟨⟨k0, e1⟩, t1, t2⟩ | ⟨⟨k0, e1⟩, k1, e2⟩
  all_goals
    go_enter Try.func7, Try.ntmps7
    go_wp2_with fail
    refine (awake_at (Below.refl _ w)).mono ?_
    rintro e u ⟨rfl, hB⟩
    go_wp2_with fail
    refine (encode_at (a ++ b) (by omega) set xab HAB.out hB).mono ?_
    rintro e u2 ⟨rfl, hB2⟩
    go_wp2_with fail
    refine (encode_at a (by omega) set xa HA.out hB2).mono ?_
    rintro e u3 ⟨rfl, hB3⟩
    go_wp2_with fail
    refine (encode_at b (by omega) set xb HB.out hB3).mono ?_
    rintro e u4 ⟨rfl, hB4⟩
    go_wp2_with fail
    refine (decode_at (a ++ b) (by omega) dab DAB.out hB4).mono ?_
    rintro e u5 ⟨rfl, hB5⟩
    go_wp2_with fail
    refine (decode_at a (by omega) da DA.out hB5).mono ?_
    rintro e u6 ⟨rfl, hB6⟩
    go_wp2_with fail
    refine (decode_at b (by omega) db DB.out hB6).mono ?_
    rintro e u7 ⟨rfl, hB7⟩
    go_wp2
    go_ret
    exact ⟨rfl, hB7⟩

theorem same_text (l m n : List UInt8) (h : l = m ++ n) : ((⟨l.toArray⟩ : ByteArray).toList == ((⟨m.toArray⟩ : ByteArray) ++ (⟨n.toArray⟩ : ByteArray)).toList) = true := by
  rw [ByteArray.toList_eq, ByteArray.toList_eq, text_append]
  simp [h]
theorem walk (a0 : ByteArray) (a1 : ByteArray) (a2 : Int) (w0 : a0.size ≤ maxLen) (w1 : a1.size ≤ maxLen) (w2 : (Lit.int .i64 a2).wf = true) (w : World) :
    Calls Try.prog 7 #[.string a0, .string a1, .int .i64 a2] w fun e w' => e = .returned (.bool true) ∧ Below w.heap.size w w' := by
  cases h : decide ((300 : Int) < a0.size)
  · cases h2 : decide ((300 : Int) < a1.size)
    · have z0 : a0.data.toList.length = a0.size := rfl
      have z1 : a1.data.toList.length = a1.size := rfl
      have ha : a0.size ≤ 300 := by simp at h; omega
      have hb : a1.size ≤ 300 := by simp at h2; omega
      have x0 := encode_len a2 a0.data.toList
      have x1 := encode_len a2 a1.data.toList
      have d0 := decode_len _ a0.data.toList (Nat.le_refl _)
      have d1 := decode_len _ a1.data.toList (Nat.le_refl _)
      have lab : (a0 ++ a1).size ≤ 600 := by rw [ByteArray.size_append]; omega
      have lxa : (⟨(encode a2 a0.data.toList).toArray⟩ : ByteArray).size ≤ 900 := by rw [size_of]; omega
      have lxb : (⟨(encode a2 a1.data.toList).toArray⟩ : ByteArray).size ≤ 900 := by rw [size_of]; omega
      have lda : (⟨(Pct.decode a0.data.toList).toArray⟩ : ByteArray).size ≤ 300 := by rw [size_of]; omega
      have ldb : (⟨(Pct.decode a1.data.toList).toArray⟩ : ByteArray).size ≤ 300 := by rw [size_of]; omega
      have ex := same_text (encode a2 (a0 ++ a1).data.toList) (encode a2 a0.data.toList) (encode a2 a1.data.toList) (by rw [text_append, encode_append])
      by_cases he : endsB a0.data.toList = true
      · have hE : Ends a0 := by
          rcases ends_spec _ he with ⟨g1, g2⟩ | ⟨g1, g2⟩
          · rw [z0] at g1 g2
            rw [getD_at _ _ (by omega)] at g2
            exact ⟨by omega, .inl (by rw [eq37]; simpa using g2)⟩
          · rw [z0] at g1 g2
            rw [getD_at _ _ (by omega)] at g2
            refine ⟨by omega, ?_⟩
            cases hq : ((a0[a0.size - 1].toNat : Int) == 37)
            · exact .inr ⟨rfl, by omega, by rw [eq37]; simpa using g2⟩
            · exact .inl rfl
        exact walkEnds a0 a1 a2 h h2 ha hb hE _ _ _ (Lib.hid rfl) (Lib.hid rfl) (Lib.hid rfl) lab lxa lxb ex w
      · by_cases hE : Ends a0
        · exact walkEnds a0 a1 a2 h h2 ha hb hE _ _ _ (Lib.hid rfl) (Lib.hid rfl) (Lib.hid rfl) lab lxa lxb ex w
        · have hN : EndsNot a0 := by
            by_cases k0 : 0 < a0.size
            · refine .inr ⟨k0, ?_, ?_⟩
              · cases hq : ((a0[a0.size - 1].toNat : Int) == 37)
                · rfl
                · exact absurd ⟨k0, .inl hq⟩ hE
              · by_cases k1 : 1 < a0.size
                · refine .inr ⟨k1, ?_⟩
                  cases hr : ((a0[a0.size - 2].toNat : Int) == 37)
                  · rfl
                  · cases hq : ((a0[a0.size - 1].toNat : Int) == 37)
                    · exact absurd ⟨k0, .inr ⟨hq, k1, hr⟩⟩ hE
                    · exact absurd ⟨k0, .inl hq⟩ hE
                · exact .inl (Lib.hid (by omega))
            · exact .inl (Lib.hid (by omega))
          have ed := same_text (Pct.decode (a0 ++ a1).data.toList) (Pct.decode a0.data.toList) (Pct.decode a1.data.toList) (by rw [text_append, decode_append _ _ _ (Nat.le_refl _) (by simpa using he)])
          exact walkNot a0 a1 a2 h h2 ha hb hN _ _ _ _ _ _ (Lib.hid rfl) (Lib.hid rfl) (Lib.hid rfl) (Lib.hid rfl) (Lib.hid rfl) (Lib.hid rfl) lab lxa lxb lda ldb ex ed w
    · exact walkOut a0 a1 a2 (.inr ⟨h, h2⟩) w
  · exact walkOut a0 a1 a2 (.inl h) w

/-! ### The row's step -/
set_option maxRecDepth 100000 in
theorem lifted (os : Os) (started : os.Started) (H : Type) (enc : TypeId × Value → H) :
    ReturnsInHanded {} Try.checked os 7 .any (Rows.pctPartsSpec.pre6 enc Try.prog Try.f7 Rows.pctPartsRow.domain false) (Rows.pctPartsSpec.post enc Try.prog Try.f7 false true false false) := by
  refine returnsInHanded_of_change (C := Try.checked) own started (by kernel_rfl) Try.func7
    (ChangeSpec.witness6 (enc := enc) (C := Try.checked) false ⟨#[], #[.string ByteArray.empty, .string ByteArray.empty, .int .i64 0], []⟩ 8 (by kernel_rfl) (by kernel_rfl) (by kernel_rfl) (by kernel_rfl)) ?_
  intro W base args ds gs before hval0 hW hcnd _
  have hval : ∀ (j : Nat) t v, Try.f7.params[j]? = some t → args[j]? = some v → Value.okWide Try.prog W .any base t v := hval0
  have hW' := hW
  obtain ⟨p, q, hA0, hV, rfl, hfz, hnd⟩ := hW
  have hA : DataW.TrodAll enc Try.prog W 0 (fun _ => true) true Try.f7.params.toList args.toList ds p := hA0
  rw [Try.params7] at hA hval
  obtain ⟨v0, vs0, d0, ds0, p0, q0, hargs, rfl, rfl, h0, r0⟩ := trodAll_cons hA
  obtain ⟨v1, vs1, d1, ds1, p1, q1, rfl, rfl, rfl, h1, r1⟩ := trodAll_cons r0
  obtain ⟨v2, vs2, d2, ds2, p2, q2, rfl, rfl, rfl, h2, r2⟩ := trodAll_cons r1
  obtain ⟨rfl, rfl, rfl⟩ := trodAll_nil r2
  obtain rfl : args = #[v0, v1, v2] := by cases args; simp_all
  obtain ⟨rfl, rfl⟩ := trodVars_none hV
  obtain ⟨a0, rfl, rfl, rfl, w0⟩ := open_string Try.underlying9 (hval 0 9 v0 rfl rfl) h0
  obtain ⟨a1, rfl, rfl, rfl, w1⟩ := open_string Try.underlying9 (hval 1 9 v1 rfl rfl) h1
  obtain ⟨a2, rfl, rfl, rfl, w2⟩ := open_int Try.underlying3 (hval 2 3 v2 rfl rfl) h2
  clear hA0 hval0
  simp only [List.append_nil] at hW'
  refine (walk a0 a1 a2 w0 w1 w2 W).mono fun e W' ⟨he, hg⟩ => ?_
  subst he
  exact ⟨_, rfl, _, _, _, [], _, [], hW', trodAll_mk1 (shut_bool Try.underlying4 _), (trodAll_cons_mk (shut_string Try.underlying9 w0) (trodAll_cons_mk (shut_string Try.underlying9 w1) (trodAll_cons_mk (shut_int Try.underlying3 w2) trodAll_mk0))), rfl, hg.frame _, fun h => by cases h⟩

theorem over : Rows.pctPartsRow.holds Try.pinned (OpenSpec.ofChange Rows.pctPartsSpec) :=
  OpenClaim.holds_of_wide 7 Try.f7 rfl rfl rfl rfl rfl rfl rfl ⟨rfl, rfl, rfl, rfl, rfl⟩ rfl rfl rfl rfl rfl (by kernel_rfl) Try.func7 (by kernel_rfl)
    (of_decide_eq_true (by kernel_rfl)) (by unfold Func.isWrapper; first | (rw [if_pos (by decide +kernel)]; kernel_rfl) | (rw [if_neg (by decide +kernel)]; exact ⟨rfl, rfl⟩))
    (fun os started H enc _ => lifted os started H enc)

/-- The statement. -/
theorem proved : Rows.PctPartsSaid :=
  over
#print axioms proved
end Go.Proofs.Ytpbcienekjnelaa.pctParts
