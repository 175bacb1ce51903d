/-
  The law AsciiLower holds for every input: for every two texts and every number the call returns true and leaves what was there as it was. No condition.
-/
import Derived.Test.YtmhoooenolackaaRows
import Derived.WalkKit
import Derived.ProofKit
import Derived.OpenShut
import Derived.ShutString
import Derived.Test.YtmhoooenolackaaAid
namespace Go.Proofs.Ytmhoooenolackaa.asciiLower
open Go.ChangeShapes Go.WideShapes Go.ChangeAt Go.RowKit
open Go.ChangeMaps (open_string shut_string)
open Go.Shelf
set_option linter.unusedSimpArgs false
set_option linter.unusedVariables false      -- a walk need not use every 'w<i>' (that an integer argument fits its kind)

theorem own : ownKnob Try.prog.godebug = none := by kernel_rfl

theorem alpha_yes (c : Int) (h : alphaB c = true) (w : World) : Calls Try.prog 13 #[.int .u8 c] w fun e w' => e = .returned (.bool true) ∧ w = w' := by
  have := alpha_any c w
  rwa [h] at this
theorem alpha_quiet (c : Int) (h : alphaB c = true) {B : Nat} {v : World} (u : World) (hu : Below B v u) : Calls Try.prog 13 #[.int .u8 c] u fun e w' => e = .returned (.bool true) ∧ Below B v w' :=
  (alpha_yes c h u).mono fun _ _ ⟨he, hw⟩ => ⟨he, hw ▸ hu⟩
theorem same_is (s t : ByteArray) (b : Bool) (hs : s.size ≤ 600) (ht : t.size ≤ 600) (h : (lower s.data.toList == lower t.data.toList) = b) (w : World) :
    Calls Try.prog 19 #[.string s, .string t] w fun e W' => e = .returned (.bool b) ∧ Below w.heap.size w W' := by
  have := same_calls s t (by unfold maxLen; omega) (by omega) (by unfold maxLen; omega) (by omega) w
  rwa [h] at this
theorem lower_get (s : ByteArray) (k : Nat) (hk : k < s.size) : (lower s.data.toList)[k]? = some (lowB s[k]) := by
  unfold lower
  rw [List.getElem?_map, List.getElem?_eq_getElem (by simpa using hk)]
  rfl
theorem lowB_alpha (c d : UInt8) (h : lowB c = lowB d) (hn : d ≠ c) : alphaB c.toNat = true ∧ alphaB d.toNat = true := by
  have h1 := lowB_toNat c
  have h2 := lowB_toNat d
  rw [h, h2] at h1
  have hne : (d.toNat : Int) ≠ c.toNat := fun e => hn (UInt8.toNat_inj.1 (by omega))
  simp only [alphaB, capB, Bool.or_eq_true, Bool.and_eq_true, decide_eq_true_eq]
  unfold lowI at h1
  split at h1 <;> split at h1 <;> omega

set_option maxRecDepth 100000 in
set_option maxHeartbeats 4000000 in
theorem walkIn (s t lw : ByteArray) (k : Nat) (hs : s.size ≤ 600) (ht : t.size ≤ 600) (hk : k < s.size) (w : World) (HLW : Hid ((⟨(lower s.data.toList).toArray⟩ : ByteArray) = lw)) (hkl : k < lw.size) (hz : Hid (lw.size = s.size)) (hy : Hid ((lw[k].toNat : Int) = lowI s[k].toNat)) :
    Calls Try.prog 5 #[.string s, .string t, .int .i64 (k : Int)] w fun e w' => e = .returned (.bool true) ∧ Below w.heap.size w w' := by
  have n1 : ¬ (600 : Int) < s.size := by omega
  have n2 : ¬ (600 : Int) < t.size := by omega
  have n3 : ¬ (k : Int) < 0 := by omega
  have n4 : (k : Int) < s.size := by omega
  have n5 : (k : Int) < lw.size := by omega
  have n6 : ((lw.size : Int) != (s.size : Int)) = false := by rw [hz.out]; simp
  have hpair := Lib.hid (fun (h : lower s.data.toList = lower t.data.toList) => (show t.size = s.size from by have := congrArg List.length h; simpa [lower] using this.symm))
  have hget := Lib.hid (fun (h : lower s.data.toList = lower t.data.toList) (hkt : k < t.size) => (show lowB s[k] = lowB t[k] from by have a := lower_get s k hk; rw [h, lower_get t k hkt] at a; exact (Option.some.inj a).symm))
  go_enter Try.func5, Try.ntmps5
  go_wp2_with fail
  refine (awake_calls _).mono ?_
  rintro e u1 ⟨rfl, hB1⟩
  go_wp2_with fail
  refine (lower_calls s (by unfold maxLen; omega) (by omega) _).mono ?_
  rintro e u2 ⟨rfl, hB2⟩
  rw [HLW.out]
  have hb := Lib.hid (below2 hB1 hB2)
  clear hB1 hB2
  go_wp2_with fail
  have hx3 : (s[k].toNat : Int) < 65 ∨ (65 ≤ (s[k].toNat : Int) ∧ (s[k].toNat : Int) ≤ 90) ∨ 90 < (s[k].toNat : Int) := by omega
  rcases hx3 with hx | ⟨hx, hx'⟩ | hx
  · have hyx := hy.out
    rw [show lowI s[k].toNat = s[k].toNat by unfold lowI; rw [if_neg (by omega)]] at hyx
    have q1 : ((lw[k].toNat : Int) != (s[k].toNat : Int)) = false := by rw [hyx]; simp
    have q2 : decide (65 ≤ (lw[k].toNat : Int)) = false := by rw [hyx]; simp; omega
    clear hyx
    go_quiet (fail)
    clear q1 q2 hx
    go_wp2_with fail
    have hb2 := Lib.hid (below_drewN hb.out nq)
    have hsz := hb2.out.size
    have hany : ∀ p : Prop, (∀ u, Below u2.heap.size (u2.drewN nq) u → p) ↔ p := fun p => ⟨fun h => h _ (Below.refl _ _), fun h _ _ => h⟩
    cases hsm : (lower s.data.toList == lower t.data.toList)
    · refine wp_region_quiet_below (by kernel_rfl) (by kernel_rfl) ?_
      repeat (go_big_quiet_step ((intro hu; go_at_call 19; exact (same_is s t false hs ht hsm _).mono fun e w'' h => ⟨h.1, hu.trans (h.2.mono hu.size)⟩)))
      refine wpQuiet_nil ?_
      intro u hu
      go_wp2
      go_ret
      exact ⟨rfl, hb2.out.trans (hu.mono hsz)⟩
    · have heq := eq_of_beq hsm
      have htz := hpair.out heq
      have hkt : k < t.size := by omega
      have hlb := hget.out heq hkt
      have m1 : (k : Int) < t.size := by omega
      have m2 : ((t.size : Int) == (s.size : Int)) = true := by rw [htz]; simp
      clear heq htz
      by_cases hts : t[k] = s[k]
      · have m3 : ((t[k].toNat : Int) == (s[k].toNat : Int)) = true := by rw [hts]; simp
        clear hts hlb
        refine wp_region_quiet_below (by kernel_rfl) (by kernel_rfl) ?_
        repeat (go_big_quiet_step ((intro hu; go_at_call 19; exact (same_is s t true hs ht hsm _).mono fun e w'' h => ⟨h.1, hu.trans (h.2.mono hu.size)⟩)))
        refine wpQuiet_nil ?_
        intro u hu
        go_wp2
        go_ret
        exact ⟨rfl, hb2.out.trans (hu.mono hsz)⟩
      · obtain ⟨hA1, hA2⟩ := lowB_alpha s[k] t[k] hlb hts
        have m3 : ((t[k].toNat : Int) == (s[k].toNat : Int)) = false := by
          rw [beq_eq_false_iff_ne]
          intro h
          exact hts (UInt8.toNat_inj.1 (by omega))
        have HA1 := Lib.hid hA1
        have HA2 := Lib.hid hA2
        clear hts hlb hA1 hA2
        refine wp_region_quiet_below (by kernel_rfl) (by kernel_rfl) ?_
        repeat (go_big_quiet_step ((intro hu; first | (go_at_call 19; exact (same_is s t true hs ht hsm _).mono fun e w'' h => ⟨h.1, hu.trans (h.2.mono hu.size)⟩) | (go_at_call 13; exact alpha_quiet _ (by first | exact HA1.out | exact HA2.out) _ hu))))
        refine wpQuiet_nil ?_
        intro u hu
        go_wp2
        go_ret
        exact ⟨rfl, hb2.out.trans (hu.mono hsz)⟩
  · have hyx := hy.out
    rw [show lowI s[k].toNat = s[k].toNat + 32 by unfold lowI; rw [if_pos ⟨hx, hx'⟩]] at hyx
    have q1 : ((lw[k].toNat : Int) != (s[k].toNat : Int)) = true := by rw [hyx, bne_iff_ne]; omega
    have q2 : decide (65 ≤ (lw[k].toNat : Int)) = true := by rw [hyx]; simp; omega
    have q3 : decide ((lw[k].toNat : Int) ≤ 90) = false := by rw [hyx]; simp; omega
    have q4 : decide ((s[k].toNat : Int) < 65) = false := by simp; omega
    have q5 : decide (90 < (s[k].toNat : Int)) = false := by simp; omega
    have q6 : ((lw[k].toNat : Int) != (s[k].toNat : Int) + 32) = false := by rw [hyx]; simp
    clear hyx
    go_quiet (fail)
    clear q1 q2 q3 q4 q5 q6 hx hx'
    go_wp2_with fail
    have hb2 := Lib.hid (below_drewN hb.out nq)
    have hsz := hb2.out.size
    have hany : ∀ p : Prop, (∀ u, Below u2.heap.size (u2.drewN nq) u → p) ↔ p := fun p => ⟨fun h => h _ (Below.refl _ _), fun h _ _ => h⟩
    cases hsm : (lower s.data.toList == lower t.data.toList)
    · refine wp_region_quiet_below (by kernel_rfl) (by kernel_rfl) ?_
      repeat (go_big_quiet_step ((intro hu; go_at_call 19; exact (same_is s t false hs ht hsm _).mono fun e w'' h => ⟨h.1, hu.trans (h.2.mono hu.size)⟩)))
      refine wpQuiet_nil ?_
      intro u hu
      go_wp2
      go_ret
      exact ⟨rfl, hb2.out.trans (hu.mono hsz)⟩
    · have heq := eq_of_beq hsm
      have htz := hpair.out heq
      have hkt : k < t.size := by omega
      have hlb := hget.out heq hkt
      have m1 : (k : Int) < t.size := by omega
      have m2 : ((t.size : Int) == (s.size : Int)) = true := by rw [htz]; simp
      clear heq htz
      by_cases hts : t[k] = s[k]
      · have m3 : ((t[k].toNat : Int) == (s[k].toNat : Int)) = true := by rw [hts]; simp
        clear hts hlb
        refine wp_region_quiet_below (by kernel_rfl) (by kernel_rfl) ?_
        repeat (go_big_quiet_step ((intro hu; go_at_call 19; exact (same_is s t true hs ht hsm _).mono fun e w'' h => ⟨h.1, hu.trans (h.2.mono hu.size)⟩)))
        refine wpQuiet_nil ?_
        intro u hu
        go_wp2
        go_ret
        exact ⟨rfl, hb2.out.trans (hu.mono hsz)⟩
      · obtain ⟨hA1, hA2⟩ := lowB_alpha s[k] t[k] hlb hts
        have m3 : ((t[k].toNat : Int) == (s[k].toNat : Int)) = false := by
          rw [beq_eq_false_iff_ne]
          intro h
          exact hts (UInt8.toNat_inj.1 (by omega))
        have HA1 := Lib.hid hA1
        have HA2 := Lib.hid hA2
        clear hts hlb hA1 hA2
        refine wp_region_quiet_below (by kernel_rfl) (by kernel_rfl) ?_
        repeat (go_big_quiet_step ((intro hu; first | (go_at_call 19; exact (same_is s t true hs ht hsm _).mono fun e w'' h => ⟨h.1, hu.trans (h.2.mono hu.size)⟩) | (go_at_call 13; exact alpha_quiet _ (by first | exact HA1.out | exact HA2.out) _ hu))))
        refine wpQuiet_nil ?_
        intro u hu
        go_wp2
        go_ret
        exact ⟨rfl, hb2.out.trans (hu.mono hsz)⟩
  · have hyx := hy.out
    rw [show lowI s[k].toNat = s[k].toNat by unfold lowI; rw [if_neg (by omega)]] at hyx
    have q1 : ((lw[k].toNat : Int) != (s[k].toNat : Int)) = false := by rw [hyx]; simp
    have q2 : decide (65 ≤ (lw[k].toNat : Int)) = true := by rw [hyx]; simp; omega
    have q3 : decide ((lw[k].toNat : Int) ≤ 90) = false := by rw [hyx]; simp; omega
    clear hyx
    go_quiet (fail)
    clear q1 q2 q3 hx
    go_wp2_with fail
    have hb2 := Lib.hid (below_drewN hb.out nq)
    have hsz := hb2.out.size
    have hany : ∀ p : Prop, (∀ u, Below u2.heap.size (u2.drewN nq) u → p) ↔ p := fun p => ⟨fun h => h _ (Below.refl _ _), fun h _ _ => h⟩
    cases hsm : (lower s.data.toList == lower t.data.toList)
    · refine wp_region_quiet_below (by kernel_rfl) (by kernel_rfl) ?_
      repeat (go_big_quiet_step ((intro hu; go_at_call 19; exact (same_is s t false hs ht hsm _).mono fun e w'' h => ⟨h.1, hu.trans (h.2.mono hu.size)⟩)))
      refine wpQuiet_nil ?_
      intro u hu
      go_wp2
      go_ret
      exact ⟨rfl, hb2.out.trans (hu.mono hsz)⟩
    · have heq := eq_of_beq hsm
      have htz := hpair.out heq
      have hkt : k < t.size := by omega
      have hlb := hget.out heq hkt
      have m1 : (k : Int) < t.size := by omega
      have m2 : ((t.size : Int) == (s.size : Int)) = true := by rw [htz]; simp
      clear heq htz
      by_cases hts : t[k] = s[k]
      · have m3 : ((t[k].toNat : Int) == (s[k].toNat : Int)) = true := by rw [hts]; simp
        clear hts hlb
        refine wp_region_quiet_below (by kernel_rfl) (by kernel_rfl) ?_
        repeat (go_big_quiet_step ((intro hu; go_at_call 19; exact (same_is s t true hs ht hsm _).mono fun e w'' h => ⟨h.1, hu.trans (h.2.mono hu.size)⟩)))
        refine wpQuiet_nil ?_
        intro u hu
        go_wp2
        go_ret
        exact ⟨rfl, hb2.out.trans (hu.mono hsz)⟩
      · obtain ⟨hA1, hA2⟩ := lowB_alpha s[k] t[k] hlb hts
        have m3 : ((t[k].toNat : Int) == (s[k].toNat : Int)) = false := by
          rw [beq_eq_false_iff_ne]
          intro h
          exact hts (UInt8.toNat_inj.1 (by omega))
        have HA1 := Lib.hid hA1
        have HA2 := Lib.hid hA2
        clear hts hlb hA1 hA2
        refine wp_region_quiet_below (by kernel_rfl) (by kernel_rfl) ?_
        repeat (go_big_quiet_step ((intro hu; first | (go_at_call 19; exact (same_is s t true hs ht hsm _).mono fun e w'' h => ⟨h.1, hu.trans (h.2.mono hu.size)⟩) | (go_at_call 13; exact alpha_quiet _ (by first | exact HA1.out | exact HA2.out) _ hu))))
        refine wpQuiet_nil ?_
        intro u hu
        go_wp2
        go_ret
        exact ⟨rfl, hb2.out.trans (hu.mono hsz)⟩
set_option maxRecDepth 100000 in
set_option maxHeartbeats 4000000 in
theorem walkOut (s t : ByteArray) (i : Int) (w : World) (hs : s.size ≤ maxLen) (ht : t.size ≤ maxLen) (h : ¬ (s.size ≤ 600 ∧ t.size ≤ 600 ∧ 0 ≤ i ∧ i < s.size)) :
    Calls Try.prog 5 #[.string s, .string t, .int .i64 i] w fun e w' => e = .returned (.bool true) ∧ Below w.heap.size w w' := by
  unfold maxLen at hs ht
  by_cases h1 : s.size ≤ 600
  · have n1 : ¬ (600 : Int) < s.size := by omega
    by_cases h2 : t.size ≤ 600
    · have n2 : ¬ (600 : Int) < t.size := by omega
      by_cases h3 : 0 ≤ i
      · have n3 : ¬ i < 0 := by omega
        have n4 : (s.size : Int) ≤ i := by omega
        clear h h1 h2 h3
        go_enter Try.func5, Try.ntmps5
        go_wp2_with fail
        refine (awake_calls _).mono ?_
        rintro e u1 ⟨rfl, hB1⟩
        go_wp2_with fail
        all_goals (go_ret; exact ⟨rfl, hB1⟩)
      · have n3 : i < 0 := by omega
        clear h h1 h2 h3
        go_enter Try.func5, Try.ntmps5
        go_wp2_with fail
        refine (awake_calls _).mono ?_
        rintro e u1 ⟨rfl, hB1⟩
        go_wp2_with fail
        all_goals (go_ret; exact ⟨rfl, hB1⟩)
    · have n2 : (600 : Int) < t.size := by omega
      clear h h1 h2
      go_enter Try.func5, Try.ntmps5
      go_wp2_with fail
      refine (awake_calls _).mono ?_
      rintro e u1 ⟨rfl, hB1⟩
      go_wp2_with fail
      all_goals (go_ret; exact ⟨rfl, hB1⟩)
  · have n1 : (600 : Int) < s.size := by omega
    clear h h1
    go_enter Try.func5, Try.ntmps5
    go_wp2_with fail
    refine (awake_calls _).mono ?_
    rintro e u1 ⟨rfl, hB1⟩
    go_wp2_with fail
    all_goals (go_ret; exact ⟨rfl, hB1⟩)

theorem walk (a0 : ByteArray) (a1 : ByteArray) (a2 : Int) (w0 : a0.size ≤ maxLen) (w1 : a1.size ≤ maxLen) (w2 : (Lit.int .i64 a2).wf = true) (w : World) :
    Calls Try.prog 5 #[.string a0, .string a1, .int .i64 a2] w fun e w' => e = .returned (.bool true) ∧ Below w.heap.size w w' := by
  by_cases h : a0.size ≤ 600 ∧ a1.size ≤ 600 ∧ 0 ≤ a2 ∧ a2 < a0.size
  · obtain ⟨h1, h2, h3, h4⟩ := h
    obtain ⟨k, rfl⟩ := Int.eq_ofNat_of_zero_le h3
    have hk : k < a0.size := by omega
    have hz : (⟨(lower a0.data.toList).toArray⟩ : ByteArray).size = a0.size := by
      show (lower a0.data.toList).length = _
      exact List.length_map _
    have hkl : k < (⟨(lower a0.data.toList).toArray⟩ : ByteArray).size := by omega
    refine walkIn a0 a1 _ k h1 h2 hk w (Lib.hid rfl) hkl (Lib.hid hz) (Lib.hid ?_)
    rw [← lowB_toNat]
    have hg := lower_get a0 k hk
    have e : (⟨(lower a0.data.toList).toArray⟩ : ByteArray)[k] = lowB a0[k] := by
      have h5 : (lower a0.data.toList)[k]? = some ((⟨(lower a0.data.toList).toArray⟩ : ByteArray)[k]) := List.getElem?_eq_getElem (l := lower a0.data.toList) (i := k) hkl
      rw [hg] at h5
      exact (Option.some.inj h5).symm
    rw [e]
  · exact walkOut a0 a1 a2 w w0 w1 h

/-! ### The row's step -/
set_option maxRecDepth 100000 in
theorem lifted (os : Os) (started : os.Started) (H : Type) (enc : TypeId × Value → H) :
    ReturnsInHanded {} Try.checked os 5 .any (Rows.asciiLowerSpec.pre6 enc Try.prog Try.f5 Rows.asciiLowerRow.domain false) (Rows.asciiLowerSpec.post enc Try.prog Try.f5 false true false false) := by
  refine returnsInHanded_of_change (C := Try.checked) own started (by kernel_rfl) Try.func5
    (ChangeSpec.witness6 (enc := enc) (C := Try.checked) false ⟨#[], #[.string ByteArray.empty, .string ByteArray.empty, .int .i64 0], []⟩ 8 (by kernel_rfl) (by kernel_rfl) (by kernel_rfl) (by kernel_rfl)) ?_
  intro W base args ds gs before hval0 hW hcnd _
  have hval : ∀ (j : Nat) t v, Try.f5.params[j]? = some t → args[j]? = some v → Value.okWide Try.prog W .any base t v := hval0
  have hW' := hW
  obtain ⟨p, q, hA0, hV, rfl, hfz, hnd⟩ := hW
  have hA : DataW.TrodAll enc Try.prog W 0 (fun _ => true) true Try.f5.params.toList args.toList ds p := hA0
  rw [Try.params5] at hA hval
  obtain ⟨v0, vs0, d0, ds0, p0, q0, hargs, rfl, rfl, h0, r0⟩ := trodAll_cons hA
  obtain ⟨v1, vs1, d1, ds1, p1, q1, rfl, rfl, rfl, h1, r1⟩ := trodAll_cons r0
  obtain ⟨v2, vs2, d2, ds2, p2, q2, rfl, rfl, rfl, h2, r2⟩ := trodAll_cons r1
  obtain ⟨rfl, rfl, rfl⟩ := trodAll_nil r2
  obtain rfl : args = #[v0, v1, v2] := by cases args; simp_all
  obtain ⟨rfl, rfl⟩ := trodVars_none hV
  obtain ⟨a0, rfl, rfl, rfl, w0⟩ := open_string Try.underlying9 (hval 0 9 v0 rfl rfl) h0
  obtain ⟨a1, rfl, rfl, rfl, w1⟩ := open_string Try.underlying9 (hval 1 9 v1 rfl rfl) h1
  obtain ⟨a2, rfl, rfl, rfl, w2⟩ := open_int Try.underlying3 (hval 2 3 v2 rfl rfl) h2
  clear hA0 hval0
  simp only [List.append_nil] at hW'
  refine (walk a0 a1 a2 w0 w1 w2 W).mono fun e W' ⟨he, hg⟩ => ?_
  subst he
  exact ⟨_, rfl, _, _, _, [], _, [], hW', trodAll_mk1 (shut_bool Try.underlying4 _), (trodAll_cons_mk (shut_string Try.underlying9 w0) (trodAll_cons_mk (shut_string Try.underlying9 w1) (trodAll_cons_mk (shut_int Try.underlying3 w2) trodAll_mk0))), rfl, hg.frame _, fun h => by cases h⟩

theorem over : Rows.asciiLowerRow.holds Try.pinned (OpenSpec.ofChange Rows.asciiLowerSpec) :=
  OpenClaim.holds_of_wide 5 Try.f5 rfl rfl rfl rfl rfl rfl rfl ⟨rfl, rfl, rfl, rfl, rfl⟩ rfl rfl rfl rfl rfl (by kernel_rfl) Try.func5 (by kernel_rfl)
    (of_decide_eq_true (by kernel_rfl)) (by unfold Func.isWrapper; first | (rw [if_pos (by decide +kernel)]; kernel_rfl) | (rw [if_neg (by decide +kernel)]; exact ⟨rfl, rfl⟩))
    (fun os started H enc _ => lifted os started H enc)

/-- The statement. -/
theorem proved : Rows.AsciiLowerSaid :=
  over
#print axioms proved
end Go.Proofs.Ytmhoooenolackaa.asciiLower
