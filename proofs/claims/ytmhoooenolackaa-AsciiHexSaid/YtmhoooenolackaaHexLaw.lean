/-
  The law AsciiHex holds for every input: for every two bytes the call returns true and leaves what was there as it was. No condition.
-/
import Derived.Test.YtmhoooenolackaaRows
import Derived.WalkKit
import Derived.ProofKit
import Derived.OpenShut
import Derived.ShutString
import Derived.Test.YtmhoooenolackaaAwake
namespace Go.Proofs.Ytmhoooenolackaa.asciiHex
open Go.ChangeShapes Go.WideShapes Go.ChangeAt Go.RowKit
open Go.ChangeMaps (open_string shut_string)
open Go.Shelf
set_option linter.unusedSimpArgs false
set_option linter.unusedVariables false      -- a walk need not use every 'w<i>' (that an integer argument fits its kind)

theorem own : ownKnob Try.prog.godebug = none := by kernel_rfl

theorem kc (w : World) (x : UInt8) : (convert 30 9 (.slice (some ⟨w.heap.size, 0, none⟩) 1 1)).run Try.prog (w.alloc (.cells #[.int .u8 (x.toNat : Int)] 5)) = .ok (.string ⟨#[x]⟩) (w.alloc (.cells #[.int .u8 (x.toNat : Int)] 5)) := by
  refine run_convert_bytes_back (w.alloc (.cells #[.int .u8 (x.toNat : Int)] 5)) 30 9 5 ⟨w.heap.size, 0, none⟩ 1 [x] Try.underlying30 Try.underlying5 Try.underlying9 ?_
  intro j hj
  obtain rfl : j = 0 := by simpa using hj
  exact (Boxed.new w 5 (.int .u8 (x.toNat : Int))).cell

theorem lower_one (c : UInt8) (w : World) : Calls Try.prog 17 #[.string ⟨#[c]⟩] w fun e W' => e = .returned (.string ⟨#[lowB c]⟩) ∧ Below w.heap.size w W' :=
  lower_calls ⟨#[c]⟩ (by show 1 ≤ maxLen; unfold maxLen; omega) (by show 1 ≤ 140737488355328; omega) w
theorem same_one (c d : UInt8) (w : World) : Calls Try.prog 19 #[.string ⟨#[c]⟩, .string ⟨#[d]⟩] w fun e W' => e = .returned (.bool (lowB c == lowB d)) ∧ Below w.heap.size w W' := by
  have h := same_calls ⟨#[c]⟩ ⟨#[d]⟩ (by show 1 ≤ maxLen; unfold maxLen; omega) (by show 1 ≤ 140737488355328; omega) (by show 1 ≤ maxLen; unfold maxLen; omega) (by show 1 ≤ 140737488355328; omega) w
  have e : (lower (⟨#[c]⟩ : ByteArray).data.toList == lower (⟨#[d]⟩ : ByteArray).data.toList) = (lowB c == lowB d) := by simp [lower]
  rwa [e] at h
theorem hex_low (c : UInt8) (w : World) : Calls Try.prog 15 #[.int .u8 ((lowB c).toNat : Int)] w fun e W' => e = .returned (.int .i64 (hexI c.toNat)) ∧ w = W' := by
  have hb := (lowB c).toNat_lt
  have h := hex_any ((lowB c).toNat : Int) (by omega) (by omega) w
  have e : hexI ((lowB c).toNat : Int) = hexI c.toNat := by
    have hc := c.toNat_lt
    rw [lowB_toNat]
    unfold lowI hexI
    repeat' split
    all_goals omega
  rwa [e] at h
theorem hexI_le (c : Int) : -1 ≤ hexI c ∧ hexI c ≤ 15 := by
  unfold hexI
  repeat' split
  all_goals omega
theorem hexI_neg (c : Int) (h : hexI c < 0) : digitB c = false := by
  unfold hexI at h
  unfold digitB
  rw [Bool.and_eq_false_iff]
  simp
  split at h
  · omega
  · omega
theorem hexI_alpha (c : Int) (h : ¬ hexI c < 0) (ha : alphaB c = false) : digitB c = true ∧ hexI c = c - 48 := by
  by_cases d : 48 ≤ c ∧ c ≤ 57
  · exact ⟨by simp [digitB, d.1, d.2], by unfold hexI; rw [if_pos d]⟩
  · exfalso
    simp [alphaB, capB] at ha
    unfold hexI at h
    rw [if_neg d] at h
    repeat' split at h
    all_goals omega
theorem alpha_digit (c : Int) (ha : alphaB c = true) : digitB c = false := by
  simp [alphaB, capB] at ha
  unfold digitB
  rw [Bool.and_eq_false_iff]
  simp
  omega
theorem hexI_same (c d : UInt8) (h : ¬ hexI c.toNat < 0) (e : hexI c.toNat = hexI d.toNat) : (lowB c == lowB d) = true := by
  rw [beq_iff_eq]
  apply UInt8.toNat_inj.1
  have h1 := lowB_toNat c
  have h2 := lowB_toNat d
  suffices lowI c.toNat = lowI d.toNat by omega
  clear h1 h2
  have k : ∀ a : Int, ¬ hexI a < 0 → lowI a = (if hexI a ≤ 9 then hexI a + 48 else hexI a + 87) := by
    intro a ha
    unfold hexI at ha
    unfold hexI lowI
    by_cases d1 : 48 ≤ a ∧ a ≤ 57
    · simp only [if_pos d1] at ha ⊢; rw [if_neg (by omega), if_pos (by omega)]; omega
    · simp only [if_neg d1] at ha ⊢
      by_cases d2 : 97 ≤ a ∧ a ≤ 102
      · simp only [if_pos d2] at ha ⊢; rw [if_neg (by omega), if_neg (by omega)]; omega
      · simp only [if_neg d2] at ha ⊢
        by_cases d3 : 65 ≤ a ∧ a ≤ 70
        · simp only [if_pos d3] at ha ⊢; rw [if_pos (by omega), if_neg (by omega)]; omega
        · simp only [if_neg d3] at ha; omega
  rw [k _ h, k _ (by rw [← e]; exact h), e]

theorem asByte (a : Int) (h : (Lit.int .u8 a).wf = true) : ∃ c : UInt8, a = (c.toNat : Int) := by
  have hb := bounds_u8 h
  refine ⟨UInt8.ofNat a.toNat, ?_⟩
  simp
  omega

set_option maxRecDepth 100000 in
set_option maxHeartbeats 2000000 in
theorem walk (a0 : Int) (a1 : Int) (w0 : (Lit.int .u8 a0).wf = true) (w1 : (Lit.int .u8 a1).wf = true) (w : World) :
    Calls Try.prog 7 #[.int .u8 a0, .int .u8 a1] w fun e w' => e = .returned (.bool true) ∧ Below w.heap.size w w' := by
  obtain ⟨c, rfl⟩ := asByte a0 w0
  obtain ⟨d, rfl⟩ := asByte a1 w1
  clear w0 w1
  have hc := c.toNat_lt
  have hd := d.toNat_lt
  go_enter Try.func7, Try.ntmps7
  go_wp2_with fail
  refine (awake_calls _).mono ?_
  rintro e u1 ⟨rfl, hB1⟩
  go_wp2_with fail
  refine (hex_any _ (by omega) (by omega) _).mono ?_
  rintro e u2 ⟨rfl, rfl⟩
  go_wp2_with fail
  refine (hex_any _ (by omega) (by omega) _).mono ?_
  rintro e u2 ⟨rfl, rfl⟩
  have k0 := kc u1 c
  go_wp2_with fail
  refine (lower_one c _).mono ?_
  rintro e u2 ⟨rfl, hB2⟩
  have k1 := kc u2 c
  have k2 := kc (u2.alloc (.cells #[.int .u8 (c.toNat : Int)] 5)) d
  rw [World.size_alloc] at k2
  have hB3 := Lib.hid (hB1.trans (((Below.refl w.heap.size u1).alloc hB1.size _).trans (hB2.mono (by have := hB1.size; simp; omega))))
  clear hB1 hB2 k0
  obtain ⟨g1, g2⟩ := hexI_le c.toNat
  have hend := fun (u : World) (h : Below u2.heap.size u2 u) => hB3.out.trans (h.mono hB3.out.size)
  have HE := Lib.hid hend
  clear hend
  have h2a := Lib.hid (Below.refl u2.heap.size u2)
  by_cases ha : hexI c.toNat < 0
  · have hdg := hexI_neg _ ha
    cases hal : alphaB c.toNat
    all_goals
      go_wp2_with (first | (go_at_call 15; refine (hex_low _ _).mono ?_; rintro e u ⟨rfl, rfl⟩) | (go_at_call 13; refine (alpha_any _ _).mono ?_; rintro e u ⟨rfl, rfl⟩) | (go_at_call 14; refine (digit_any _ _).mono ?_; rintro e u ⟨rfl, rfl⟩))
      go_ret
      exact ⟨rfl, hB3.out⟩
  · have ha' : decide (hexI c.toNat < 0) = false := by simpa using ha
    by_cases hab : hexI c.toNat = hexI d.toNat
    · have hsm := hexI_same c d ha hab
      have hne : (hexI c.toNat != hexI d.toNat) = false := by simp [hab]
      have HF := Lib.hid (hexI_alpha c.toNat ha)
      clear hab
      cases hal : alphaB c.toNat
      · obtain ⟨hdg, hv⟩ := HF.out hal
        have hv' : (hexI c.toNat == (c.toNat : Int) - 48) = true := by simp [hv]
        clear hv
        go_wp2_with (first | (go_at_call 15; refine (hex_low _ _).mono ?_; rintro e u ⟨rfl, rfl⟩) | (go_at_call 13; refine (alpha_any _ _).mono ?_; rintro e u ⟨rfl, rfl⟩) | (go_at_call 14; refine (digit_any _ _).mono ?_; rintro e u ⟨rfl, rfl⟩) | (go_at_call 19; refine (same_one _ _ _).mono ?_; rintro e u3 ⟨rfl, hB4⟩))
        go_ret
        exact ⟨rfl, HE.out _ ((((Below.refl _ _).alloc (Nat.le_refl _) _).alloc (by simp) _).trans (hB4.mono (by simp; omega)))⟩
      · have hdg := alpha_digit _ hal
        go_wp2_with (first | (go_at_call 15; refine (hex_low _ _).mono ?_; rintro e u ⟨rfl, rfl⟩) | (go_at_call 13; refine (alpha_any _ _).mono ?_; rintro e u ⟨rfl, rfl⟩) | (go_at_call 14; refine (digit_any _ _).mono ?_; rintro e u ⟨rfl, rfl⟩) | (go_at_call 19; refine (same_one _ _ _).mono ?_; rintro e u3 ⟨rfl, hB4⟩))
        go_ret
        exact ⟨rfl, HE.out _ ((((Below.refl _ _).alloc (Nat.le_refl _) _).alloc (by simp) _).trans (hB4.mono (by simp; omega)))⟩
    · have hne : (hexI c.toNat != hexI d.toNat) = true := by simp [hab]
      have HF := Lib.hid (hexI_alpha c.toNat ha)
      clear hab
      cases hal : alphaB c.toNat
      · obtain ⟨hdg, hv⟩ := HF.out hal
        have hv' : (hexI c.toNat == (c.toNat : Int) - 48) = true := by simp [hv]
        clear hv
        go_wp2_with (first | (go_at_call 15; refine (hex_low _ _).mono ?_; rintro e u ⟨rfl, rfl⟩) | (go_at_call 13; refine (alpha_any _ _).mono ?_; rintro e u ⟨rfl, rfl⟩) | (go_at_call 14; refine (digit_any _ _).mono ?_; rintro e u ⟨rfl, rfl⟩))
        go_ret
        exact ⟨rfl, hB3.out⟩
      · have hdg := alpha_digit _ hal
        go_wp2_with (first | (go_at_call 15; refine (hex_low _ _).mono ?_; rintro e u ⟨rfl, rfl⟩) | (go_at_call 13; refine (alpha_any _ _).mono ?_; rintro e u ⟨rfl, rfl⟩) | (go_at_call 14; refine (digit_any _ _).mono ?_; rintro e u ⟨rfl, rfl⟩))
        go_ret
        exact ⟨rfl, hB3.out⟩

/-! ### The row's step -/
set_option maxRecDepth 100000 in
theorem lifted (os : Os) (started : os.Started) (H : Type) (enc : TypeId × Value → H) :
    ReturnsInHanded {} Try.checked os 7 .any (Rows.asciiHexSpec.pre6 enc Try.prog Try.f7 Rows.asciiHexRow.domain false) (Rows.asciiHexSpec.post enc Try.prog Try.f7 false true false false) := by
  refine returnsInHanded_of_change (C := Try.checked) own started (by kernel_rfl) Try.func7
    (ChangeSpec.witness6 (enc := enc) (C := Try.checked) false ⟨#[], #[.int .u8 0, .int .u8 0], []⟩ 8 (by kernel_rfl) (by kernel_rfl) (by kernel_rfl) (by kernel_rfl)) ?_
  intro W base args ds gs before hval0 hW hcnd _
  have hval : ∀ (j : Nat) t v, Try.f7.params[j]? = some t → args[j]? = some v → Value.okWide Try.prog W .any base t v := hval0
  have hW' := hW
  obtain ⟨p, q, hA0, hV, rfl, hfz, hnd⟩ := hW
  have hA : DataW.TrodAll enc Try.prog W 0 (fun _ => true) true Try.f7.params.toList args.toList ds p := hA0
  rw [Try.params7] at hA hval
  obtain ⟨v0, vs0, d0, ds0, p0, q0, hargs, rfl, rfl, h0, r0⟩ := trodAll_cons hA
  obtain ⟨v1, vs1, d1, ds1, p1, q1, rfl, rfl, rfl, h1, r1⟩ := trodAll_cons r0
  obtain ⟨rfl, rfl, rfl⟩ := trodAll_nil r1
  obtain rfl : args = #[v0, v1] := by cases args; simp_all
  obtain ⟨rfl, rfl⟩ := trodVars_none hV
  obtain ⟨a0, rfl, rfl, rfl, w0⟩ := open_int Try.underlying5 (hval 0 5 v0 rfl rfl) h0
  obtain ⟨a1, rfl, rfl, rfl, w1⟩ := open_int Try.underlying5 (hval 1 5 v1 rfl rfl) h1
  clear hA0 hval0
  simp only [List.append_nil] at hW'
  refine (walk a0 a1 w0 w1 W).mono fun e W' ⟨he, hg⟩ => ?_
  subst he
  exact ⟨_, rfl, _, _, _, [], _, [], hW', trodAll_mk1 (shut_bool Try.underlying4 _), (trodAll_cons_mk (shut_int Try.underlying5 w0) (trodAll_cons_mk (shut_int Try.underlying5 w1) trodAll_mk0)), rfl, hg.frame _, fun h => by cases h⟩

theorem over : Rows.asciiHexRow.holds Try.pinned (OpenSpec.ofChange Rows.asciiHexSpec) :=
  OpenClaim.holds_of_wide 7 Try.f7 rfl rfl rfl rfl rfl rfl rfl ⟨rfl, rfl, rfl, rfl, rfl⟩ rfl rfl rfl rfl rfl (by kernel_rfl) Try.func7 (by kernel_rfl)
    (of_decide_eq_true (by kernel_rfl)) (by unfold Func.isWrapper; first | (rw [if_pos (by decide +kernel)]; kernel_rfl) | (rw [if_neg (by decide +kernel)]; exact ⟨rfl, rfl⟩))
    (fun os started H enc _ => lifted os started H enc)

/-- The statement. -/
theorem proved : Rows.AsciiHexSaid :=
  over
#print axioms proved
end Go.Proofs.Ytmhoooenolackaa.asciiHex
