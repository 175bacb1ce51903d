/-
  WHAT IS PROVED: the card of ShowDoor: of any two addresses whose parts are few and short, that may be, and are of the web: a door begins by the host's text, and is that, if there is no port; two have one door just if host and port are the same.
  CONDITIONS: none but the card's own: the listed tables read as their texts lay them; the addresses are any.
-/
import Derived.Test.YtkjkcgbmfglihaaGreatDoorCards
import Derived.Test.YtkjkcgbmfglihaaGreatDoorTie
import Derived.WalkKit
import Derived.ProofKit
import Derived.OpenShut
import Derived.ShutString
import Derived.ChangeOld
import Derived.Below
import Derived.Deep.RegionHeld
import Derived.Laws.AppendOwnNone
import Derived.Test.YtkjkcgbmfglihaaGreatDoorSHSize
import Derived.Test.YtkjkcgbmfglihaaGreatDoorLaid
import Derived.Test.YtkjkcgbmfglihaaGreatDoorHOpen
namespace Go.Proofs.YtkjkcgbmfglihaaGreatDoor.showDoor
open Go.ChangeShapes Go.WideShapes Go.ChangeAt Go.RowKit
open Go.ChangeMaps (open_string shut_string)
open Go.Shelf
open Go.Proofs.YtkjkcgbmfglihaaGreatDoor.Url
open Go.Proofs.YtkjkcgbmfglihaaGreatDoor.Host (H)
open Go.Proofs.YtkjkcgbmfglihaaGreatDoor.Path (Strs)
set_option linter.unusedSimpArgs false
set_option linter.unusedVariables false

theorem own : ownKnob Tryz.prog.godebug = none := by kernel_rfl
theorem laidOut : laidOutB Tryz.prog = true := by kernel_rfl

open Go.Proofs.YtkjkcgbmfglihaaGreatDoor.Show
theorem door_list (a : U) (h : mayU a = true) (hw : webI a.sch ≠ 0) (D H : ByteArray) (hD : tb (doorU a) = D) (hH : tb (Host.showH a.h) = H) : H.size ≤ D.size ∧ D.extract 0 H.size = H ∧ (a.port = -1 → D = H) := by
  have e : doorU a = Host.showH a.h ++ portT a := by unfold doorU; rw [h, decide_eq_false hw]; rfl
  have hl : H.size ≤ D.size := by rw [size_tb hH, size_tb hD, e, List.length_append]; omega
  refine ⟨hl, ?_, fun hp => ?_⟩
  · rw [piece_to D _ hl, list_tb hD, e, size_tb hH, List.take_left, hH]
  · rw [← hD, ← hH, e]
    unfold portT
    rw [if_pos hp, List.append_nil]
set_option maxRecDepth 100000
set_option maxHeartbeats 16000000 in
theorem walk (a0 : U) (v0 : Value) (l0 : a0.h.p.length = 8) (a1 : U) (v1 : Value) (l1 : a1.h.p.length = 8) (m : Int) (w : World) (hm : Six.At m w)
    (s0 : Path.Strs w v0 a0.path) (w0 : (Lit.int .i64 a0.port).wf = true) (s1 : Path.Strs w v1 a1.path) (w1 : (Lit.int .i64 a1.port).wf = true) :
    Calls Tryz.prog 9 #[.agg (cU a0 v0), .agg (cU a1 v1)] w fun e w' => e = .returned (.bool true) ∧ Below w.heap.size w w' := by
  have e1 : (w.alloc (.cells (cU a0 v0) 27)).heap.size = w.heap.size + 1 := Array.size_push _
  have b1 := (Below.refl w.heap.size w).alloc (Nat.le_refl _) (.cells (cU a0 v0) 27)
  have HX := Lib.hid (b1.alloc (by omega) (.cells (cU a1 v1) 27))
  have HU0 := Lib.hid ((UrlAt.new w a0 v0).past (.cells (cU a1 v1) 27))
  have HV0 := Lib.hid (show UrlAt ((w.alloc (.cells (cU a0 v0) 27)).alloc (.cells (cU a1 v1) 27)) (w.heap.size + 1) a1 v1 from by rw [← e1]; exact UrlAt.new _ a1 v1)
  have HM0 := Lib.hid (hm.later HX.out)
  have HS0 := Lib.hid (s0.later HX.out)
  have HT0 := Lib.hid (s1.later HX.out)
  clear e1 b1 hm s0 s1 w0 w1
  go_enter Tryz.func9, Tryz.ntmps9
  go_wp2_with fail
  generalize (w.alloc (.cells (cU a0 v0) 27)).alloc (.cells (cU a1 v1) 27) = X0 at HX HU0 HV0 HM0 HS0 HT0 ⊢
  refine (Show.awake_calls m X0 HM0.out).mono ?_
  rintro e X1 ⟨rfl, hB⟩
  have HB1 := Lib.hid (hB)
  have HU1 := Lib.hid (HU0.out.later hB)
  have HV1 := Lib.hid (HV0.out.later hB)
  have HM1 := Lib.hid (HM0.out.later hB)
  have HS1 := Lib.hid (HS0.out.later hB)
  have HT1 := Lib.hid (HT0.out.later hB)
  clear HU0 HV0 HM0 HS0 HT0
  clear hB
  obtain ⟨f0, hf0⟩ : ∃ b, fewU a0 = b := ⟨_, rfl⟩
  have hu := HU1.out
  go_wp2_with ((with_reducible refine wp_load27 (o := ⟨some 11, .load 27 (.tmp 2), _, _, _, _⟩) ?_ (.tmp 2) ?_ w.heap.size ?_ a0 v0 l0 hu ?_); (· rfl); (· rfl); (· rfl); simp only [Act.put, List.setIfInBounds_toArray, List.set_cons_zero, List.set_cons_succ])
  refine (few_any a0 v0 l0 f0 hf0 _ HS1.out).mono ?_
  rintro e X2 ⟨rfl, hB⟩
  have HB2 := Lib.hid (below_trans HB1.out hB)
  have HU2 := Lib.hid (HU1.out.later hB)
  have HV2 := Lib.hid (HV1.out.later hB)
  have HM2 := Lib.hid (HM1.out.later hB)
  have HS2 := Lib.hid (HS1.out.later hB)
  have HT2 := Lib.hid (HT1.out.later hB)
  clear HB1 HU1 HV1 HM1 HS1 HT1
  clear hB hu
  obtain ⟨f1, hf1⟩ : ∃ b, fewU a1 = b := ⟨_, rfl⟩
  have hu := HV2.out
  go_wp2_with ((with_reducible refine wp_load27 (o := ⟨some 13, .load 27 (.tmp 3), _, _, _, _⟩) ?_ (.tmp 3) ?_ (w.heap.size + 1) ?_ a1 v1 l1 hu ?_); (· rfl); (· rfl); (· rfl); simp only [Act.put, List.setIfInBounds_toArray, List.set_cons_zero, List.set_cons_succ])
  refine (few_any a1 v1 l1 f1 hf1 _ HT2.out).mono ?_
  rintro e X3 ⟨rfl, hB⟩
  have HB3 := Lib.hid (below_trans HB2.out hB)
  have HU3 := Lib.hid (HU2.out.later hB)
  have HV3 := Lib.hid (HV2.out.later hB)
  have HM3 := Lib.hid (HM2.out.later hB)
  have HS3 := Lib.hid (HS2.out.later hB)
  have HT3 := Lib.hid (HT2.out.later hB)
  clear HB2 HU2 HV2 HM2 HS2 HT2
  clear hB hu
  cases f0
  · go_wp2
    go_ret
    exact ⟨rfl, HX.out.trans (HB3.out.mono HX.out.size)⟩
  cases f1
  · go_wp2
    go_ret
    exact ⟨rfl, HX.out.trans (HB3.out.mono HX.out.size)⟩
  have F0 := Lib.hid (few_fit a0 l0 hf0)
  have F1 := Lib.hid (few_fit a1 l1 hf1)
  clear hf0 hf1
  obtain ⟨b0, hb0⟩ : ∃ b, mayU a0 = b := ⟨_, rfl⟩
  obtain ⟨b1, hb1⟩ : ∃ b, mayU a1 = b := ⟨_, rfl⟩
  have CA := Lib.hid (fun x hx hy => may_any a0 v0 F0.out b0 hb0 m x hx hy)
  have CB := Lib.hid (fun x hx hy => may_any a1 v1 F1.out b1 hb1 m x hx hy)
  have H0 := Lib.hid hb0
  have H1 := Lib.hid hb1
  clear hb0 hb1
  have hu := HU3.out
  go_wp2_with ((with_reducible refine wp_load27 (o := ⟨some 26, .load 27 (.tmp 2), _, _, _, _⟩) ?_ (.tmp 2) ?_ w.heap.size ?_ a0 v0 l0 hu ?_); (· rfl); (· rfl); (· rfl); simp only [Act.put, List.setIfInBounds_toArray, List.set_cons_zero, List.set_cons_succ])
  refine (CA.out _ HM3.out HS3.out).mono ?_
  rintro e X4 ⟨rfl, hB⟩
  have HB4 := Lib.hid (below_trans HB3.out hB)
  have HU4 := Lib.hid (HU3.out.later hB)
  have HV4 := Lib.hid (HV3.out.later hB)
  have HM4 := Lib.hid (HM3.out.later hB)
  have HS4 := Lib.hid (HS3.out.later hB)
  have HT4 := Lib.hid (HT3.out.later hB)
  clear HB3 HU3 HV3 HM3 HS3 HT3
  clear hB hu CA
  cases b0
  · go_wp2
    go_ret
    exact ⟨rfl, HX.out.trans (HB4.out.mono HX.out.size)⟩
  have hu := HV4.out
  go_wp2_with ((with_reducible refine wp_load27 (o := ⟨some 31, .load 27 (.tmp 3), _, _, _, _⟩) ?_ (.tmp 3) ?_ (w.heap.size + 1) ?_ a1 v1 l1 hu ?_); (· rfl); (· rfl); (· rfl); simp only [Act.put, List.setIfInBounds_toArray, List.set_cons_zero, List.set_cons_succ])
  refine (CB.out _ HM4.out HT4.out).mono ?_
  rintro e X5 ⟨rfl, hB⟩
  have HB5 := Lib.hid (below_trans HB4.out hB)
  have HU5 := Lib.hid (HU4.out.later hB)
  have HV5 := Lib.hid (HV4.out.later hB)
  have HM5 := Lib.hid (HM4.out.later hB)
  have HS5 := Lib.hid (HS4.out.later hB)
  have HT5 := Lib.hid (HT4.out.later hB)
  clear HB4 HU4 HV4 HM4 HS4 HT4
  clear hB hu CB
  cases b1
  · go_wp2
    go_ret
    exact ⟨rfl, HX.out.trans (HB5.out.mono HX.out.size)⟩
  obtain ⟨N0, hN0⟩ : ∃ N, tb a0.sch = N := ⟨_, rfl⟩
  obtain ⟨N1, hN1⟩ : ∃ N, tb a1.sch = N := ⟨_, rfl⟩
  obtain ⟨z0, hz0⟩ : ∃ z, webI a0.sch = z := ⟨_, rfl⟩
  obtain ⟨z1, hz1⟩ : ∃ z, webI a1.sch = z := ⟨_, rfl⟩
  have CW0 := Lib.hid (fun x => web_any N0 z0 (by rw [list_tb hN0]; exact hz0) x)
  have CW1 := Lib.hid (fun x => web_any N1 z1 (by rw [list_tb hN1]; exact hz1) x)
  have c0 := HU5.out.cell 0
  rw [(cU_at a0 v0 l0).1, hN0] at c0
  have d0 := HV5.out.cell 0
  rw [(cU_at a1 v1 l1).1, hN1] at d0
  clear hN0 hN1
  go_wp2_with fail
  refine (CW0.out _).mono ?_
  rintro e X ⟨rfl, rfl⟩
  clear CW0
  by_cases k0 : z0 = 0
  · have q0 : (z0 == 0) = true := by rw [k0]; rfl
    clear hz0 hz1 k0
    go_wp2
    go_ret
    exact ⟨rfl, HX.out.trans (HB5.out.mono HX.out.size)⟩
  have q0 : (z0 == 0) = false := beq_eq_false_iff_ne.2 k0
  have Hz0 := Lib.hid hz0
  have Hz1 := Lib.hid hz1
  have K0 := Lib.hid k0
  clear hz0 hz1 k0
  go_wp2_with fail
  refine (CW1.out _).mono ?_
  rintro e X ⟨rfl, rfl⟩
  clear CW1
  by_cases k1 : z1 = 0
  · have q1 : (z1 == 0) = true := by rw [k1]; rfl
    clear k1
    go_wp2
    go_ret
    exact ⟨rfl, HX.out.trans (HB5.out.mono HX.out.size)⟩
  have q1 : (z1 == 0) = false := beq_eq_false_iff_ne.2 k1
  have W0 : webI a0.sch ≠ 0 := by rw [Hz0.out]; exact K0.out
  have W1 : webI a1.sch ≠ 0 := by rw [Hz1.out]; exact k1
  clear c0 d0 Hz0 Hz1 K0 k1
  obtain ⟨D0, hD0⟩ : ∃ D, tb (doorU a0) = D := ⟨_, rfl⟩
  obtain ⟨D1, hD1⟩ : ∃ D, tb (doorU a1) = D := ⟨_, rfl⟩
  obtain ⟨G0, hG0⟩ : ∃ D, tb (Host.showH a0.h) = D := ⟨_, rfl⟩
  have CA := Lib.hid (fun x hx hy => Show.door_any a0 v0 F0.out D0 hD0 m x hx hy)
  have CB := Lib.hid (fun x hx hy => Show.door_any a1 v1 F1.out D1 hD1 m x hx hy)
  have CH := Lib.hid (fun x hx => Host.show_in a0.h l0 F0.out.hs G0 hG0 m x hx)
  obtain ⟨sH, hsH⟩ : ∃ b, Host.sameH a0.h a1.h = b := ⟨_, rfl⟩
  obtain ⟨sP, hsP⟩ : ∃ b, (a0.port == a1.port) = b := ⟨_, rfl⟩
  obtain ⟨nP, hnP⟩ : ∃ b, (a0.port != -1) = b := ⟨_, rfl⟩
  have heq : ∀ v, (Op.equalIn 10000 24 (.agg a0.h.cells) (.agg a1.h.cells)).run Tryz.prog v = .ok sH v := fun v => Host.eq24 a0.h a1.h l0 l1 sH hsH v
  have HDE := Lib.hid (show (D0.toList == D1.toList) = (sH && sP) from by
    rw [Path.tl, Path.tl, list_tb hD0, list_tb hD1, Bool.eq_iff_iff, beq_iff_eq, door_inj H0.out H1.out W0 W1 l0 l1, ← hsH, ← hsP, Bool.and_eq_true, beq_iff_eq, Host.same_iff])
  obtain ⟨r1, r2, r3⟩ := door_list a0 H0.out W0 D0 G0 hD0 hG0
  have HDN := Lib.hid (show nP = false → (D0.toList == G0.toList) = true from fun h => by
    have : a0.port = -1 := by rw [← hnP] at h; simpa using h
    rw [r3 this]; simp)
  have HR2 := Lib.hid r2
  have r1' : decide (G0.size ≤ D0.size) = true := decide_eq_true r1
  have HHE := Lib.hid heq
  have HSP := Lib.hid hsP
  have HNP := Lib.hid hnP
  clear hD0 hD1 hG0 hsH hsP hnP r2 r3 heq H0 H1 W0 W1 F0 F1
  have hu := HU5.out
  go_wp2_with ((with_reducible refine wp_load27 (o := ⟨some 48, .load 27 (.tmp 2), _, _, _, _⟩) ?_ (.tmp 2) ?_ w.heap.size ?_ a0 v0 l0 hu ?_); (· rfl); (· rfl); (· rfl); simp only [Act.put, List.setIfInBounds_toArray, List.set_cons_zero, List.set_cons_succ])
  refine (CA.out _ HM5.out HS5.out).mono ?_
  rintro e X6 ⟨rfl, hB⟩
  have HB6 := Lib.hid (below_trans HB5.out hB)
  have HU6 := Lib.hid (HU5.out.later hB)
  have HV6 := Lib.hid (HV5.out.later hB)
  have HM6 := Lib.hid (HM5.out.later hB)
  have HS6 := Lib.hid (HS5.out.later hB)
  have HT6 := Lib.hid (HT5.out.later hB)
  clear HB5 HU5 HV5 HM5 HS5 HT5
  clear hB hu CA q0 q1
  have hu := HU6.out
  go_wp2_with ((with_reducible refine wp_load24u (o := ⟨some 51, .load 24 (.tmp 50), _, _, _, _⟩) ?_ (.tmp 50) ?_ w.heap.size ?_ a0 v0 l0 hu ?_); (· rfl); (· rfl); (· rfl); simp only [Act.put, List.setIfInBounds_toArray, List.set_cons_zero, List.set_cons_succ])
  refine (CH.out _ HM6.out).mono ?_
  rintro e X7 ⟨rfl, hB⟩
  have HB7 := Lib.hid (below_trans HB6.out hB)
  have HU7 := Lib.hid (HU6.out.later hB)
  have HV7 := Lib.hid (HV6.out.later hB)
  have HM7 := Lib.hid (HM6.out.later hB)
  have HS7 := Lib.hid (HS6.out.later hB)
  have HT7 := Lib.hid (HT6.out.later hB)
  clear HB6 HU6 HV6 HM6 HS6 HT6
  clear hB hu CH
  go_wp2_with fail
  have LV := Lib.hid (q_url HV7.out l1)
  have LH0 := Lib.hid (q_host HU7.out l0)
  have LH1 := Lib.hid (q_host HV7.out l1)
  have LP0 := Lib.hid (q_prt HU7.out l0)
  have LP1 := Lib.hid (q_prt HV7.out l1)
  have heq := HHE.out
  have hsP := HSP.out
  have hnP := HNP.out
  have hDE := HDE.out
  have r2 := HR2.out
  clear HHE HSP HNP HDE HR2
  cases sH <;> cases sP <;> cases nP
  all_goals
    first | (have hDN := HDN.out rfl) | skip
    clear HDN
    simp only [Bool.and_true, Bool.and_false, Bool.true_and, Bool.false_and] at hDE
    refine Ascii.wp_region_quiet_below (by kernel_rfl) (by kernel_rfl) ?_
    iterate 1 (go_big_quiet_step ((intro _; rfl)))
    ((go_big_quiet_want; (with_reducible refine Host.quiet_load (o := ⟨some 54, .load 27 (.tmp 3), _, _, _, _⟩) 27 (.tmp 3) ?_ _ ?_ _ LV.out ?_); (· rfl); (· rfl)); go_big_quiet_on; simp only [Act.put, List.setIfInBounds_toArray, List.set_cons_succ, List.set_cons_zero])
    go_big_quiet_step ((intro hu; go_at_call 31; exact (CB.out _ (HM7.out.later hu) (HT7.out.later hu)).mono fun e u' h => ⟨h.1, hu.trans (h.2.mono hu.size)⟩))
    iterate 2 (go_big_quiet_step ((intro _; rfl)))
    ((go_big_quiet_want; (with_reducible refine Host.quiet_load (o := ⟨some 58, .load 24 (.tmp 57), _, _, _, _⟩) 24 (.tmp 57) ?_ _ ?_ _ LH0.out ?_); (· rfl); (· rfl)); go_big_quiet_on; simp only [Act.put, List.setIfInBounds_toArray, List.set_cons_succ, List.set_cons_zero])
    iterate 1 (go_big_quiet_step ((intro _; rfl)))
    ((go_big_quiet_want; (with_reducible refine Host.quiet_load (o := ⟨some 60, .load 24 (.tmp 59), _, _, _, _⟩) 24 (.tmp 59) ?_ _ ?_ _ LH1.out ?_); (· rfl); (· rfl)); go_big_quiet_on; simp only [Act.put, List.setIfInBounds_toArray, List.set_cons_succ, List.set_cons_zero])
    iterate 3 (go_big_quiet_step ((intro _; rfl)))
    (first | go_big_quiet_skip | ((go_big_quiet_want; (with_reducible refine Host.quiet_load (o := ⟨some 64, .load 3 (.tmp 63), _, _, _, _⟩) 3 (.tmp 63) ?_ _ ?_ _ LP0.out ?_); (· rfl); (· rfl)); go_big_quiet_on; simp only [Act.put, List.setIfInBounds_toArray, List.set_cons_succ, List.set_cons_zero]))
    iterate 1 (go_big_quiet_step ((intro _; rfl)))
    (first | go_big_quiet_skip | ((go_big_quiet_want; (with_reducible refine Host.quiet_load (o := ⟨some 66, .load 3 (.tmp 65), _, _, _, _⟩) 3 (.tmp 65) ?_ _ ?_ _ LP1.out ?_); (· rfl); (· rfl)); go_big_quiet_on; simp only [Act.put, List.setIfInBounds_toArray, List.set_cons_succ, List.set_cons_zero]))
    iterate 5 (go_big_quiet_step ((intro _; rfl)))
    (first | go_big_quiet_skip | ((go_big_quiet_want; (with_reducible refine Host.quiet_load (o := ⟨some 72, .load 3 (.tmp 71), _, _, _, _⟩) 3 (.tmp 71) ?_ _ ?_ _ LP0.out ?_); (· rfl); (· rfl)); go_big_quiet_on; simp only [Act.put, List.setIfInBounds_toArray, List.set_cons_succ, List.set_cons_zero]))
    repeat (go_big_quiet_step ((intro _; rfl)))
    refine wpQuiet_nil ?_
    intro z hz
    go_wp2
    go_ret
    exact ⟨rfl, HX.out.trans ((below_trans HB7.out hz).mono HX.out.size)⟩

/-! ### The row's step -/
theorem reads (os : Os) {H : Type} (enc : TypeId × Value → H) : (DataW.whole enc Tryz.prog ((Card.laidWorld os).forCall (fun _ _ => 0) ⟨#[], #[.agg #[.string ByteArray.empty, .string ByteArray.empty, .string ByteArray.empty, .int .i64 0, .string ByteArray.empty, .int .i64 0, .int .i64 0, .int .i64 0, .int .i64 0, .int .i64 0, .int .i64 0, .int .i64 0, .int .i64 0, .int .i64 0, .int .i64 0, .slice none 0 0, .string ByteArray.empty, .string ByteArray.empty, .string ByteArray.empty, .bool false, .bool false], .agg #[.string ByteArray.empty, .string ByteArray.empty, .string ByteArray.empty, .int .i64 0, .string ByteArray.empty, .int .i64 0, .int .i64 0, .int .i64 0, .int .i64 0, .int .i64 0, .int .i64 0, .int .i64 0, .int .i64 0, .int .i64 0, .int .i64 0, .slice none 0 0, .string ByteArray.empty, .string ByteArray.empty, .string ByteArray.empty, .bool false, .bool false]], []⟩).memory Tryz.f9.params.toList Rows.showDoorSpec.vars false (#[.agg #[.string ByteArray.empty, .string ByteArray.empty, .string ByteArray.empty, .int .i64 0, .string ByteArray.empty, .int .i64 0, .int .i64 0, .int .i64 0, .int .i64 0, .int .i64 0, .int .i64 0, .int .i64 0, .int .i64 0, .int .i64 0, .int .i64 0, .slice none 0 0, .string ByteArray.empty, .string ByteArray.empty, .string ByteArray.empty, .bool false, .bool false], .agg #[.string ByteArray.empty, .string ByteArray.empty, .string ByteArray.empty, .int .i64 0, .string ByteArray.empty, .int .i64 0, .int .i64 0, .int .i64 0, .int .i64 0, .int .i64 0, .int .i64 0, .int .i64 0, .int .i64 0, .int .i64 0, .int .i64 0, .slice none 0 0, .string ByteArray.empty, .string ByteArray.empty, .string ByteArray.empty, .bool false, .bool false]] : Array Value).toList 8).map (fun x => (x.1, x.2.1)) = some ([.agg [.lit (.string []), .lit (.string []), .lit (.string []), .agg [.lit (.int .i64 0), .lit (.string []), .lit (.int .i64 0), .agg [.lit (.int .i64 0), .lit (.int .i64 0), .lit (.int .i64 0), .lit (.int .i64 0), .lit (.int .i64 0), .lit (.int .i64 0), .lit (.int .i64 0), .lit (.int .i64 0)]], .lit (.int .i64 0), .nil, .lit (.string []), .lit (.string []), .lit (.string []), .lit (.bool false), .lit (.bool false)], .agg [.lit (.string []), .lit (.string []), .lit (.string []), .agg [.lit (.int .i64 0), .lit (.string []), .lit (.int .i64 0), .agg [.lit (.int .i64 0), .lit (.int .i64 0), .lit (.int .i64 0), .lit (.int .i64 0), .lit (.int .i64 0), .lit (.int .i64 0), .lit (.int .i64 0), .lit (.int .i64 0)]], .lit (.int .i64 0), .nil, .lit (.string []), .lit (.string []), .lit (.string []), .lit (.bool false), .lit (.bool false)]], []) := by kernel_rfl
set_option maxRecDepth 100000 in
theorem lifted (os : Os) (started : os.Started) (H : Type) (enc : TypeId × Value → H) (F : Stop.Interp) :
    ReturnsInHanded {} Tryz.checked os 9 .any ((OpenSpec.ofChange Rows.showDoorSpec).preRow enc Tryz.prog Tryz.f9 Rows.showDoorRow.domain false Rows.showDoorRow.laid) (((OpenSpec.ofChange Rows.showDoorSpec).at F).post enc Tryz.prog Tryz.f9 false true false false) := by
  obtain ⟨⟨x1, x2, x3⟩, hx, hx1⟩ := Option.map_eq_some_iff.1 (reads os enc)
  simp only [Prod.mk.injEq] at hx1
  obtain ⟨rfl, rfl⟩ := hx1
  refine returnsInHanded_of_row (C := Tryz.checked) (s := OpenSpec.ofChange Rows.showDoorSpec) own started (by kernel_rfl) Tryz.func9
    (witness_row_at (enc := enc) (C := Tryz.checked) false (Card.laidWorld os) #[.agg #[.string ByteArray.empty, .string ByteArray.empty, .string ByteArray.empty, .int .i64 0, .string ByteArray.empty, .int .i64 0, .int .i64 0, .int .i64 0, .int .i64 0, .int .i64 0, .int .i64 0, .int .i64 0, .int .i64 0, .int .i64 0, .int .i64 0, .slice none 0 0, .string ByteArray.empty, .string ByteArray.empty, .string ByteArray.empty, .bool false, .bool false], .agg #[.string ByteArray.empty, .string ByteArray.empty, .string ByteArray.empty, .int .i64 0, .string ByteArray.empty, .int .i64 0, .int .i64 0, .int .i64 0, .int .i64 0, .int .i64 0, .int .i64 0, .int .i64 0, .int .i64 0, .int .i64 0, .int .i64 0, .slice none 0 0, .string ByteArray.empty, .string ByteArray.empty, .string ByteArray.empty, .bool false, .bool false]] rfl (by kernel_rfl) (by kernel_rfl) (by kernel_rfl)
      (OpenSpec.preRow_of_cond 8 hx (by kernel_rfl) (fun k hk => by cases hk) (by kernel_rfl) (Card.laid_met os _))) ?_
  intro W base args ds gs before hval0 hW _ _ _ hL hsh _
  obtain ⟨m, hmax⟩ := Card.maxLen_int hsh
  have hm : Six.At m W := ⟨hmax, Six.tab_of hL⟩
  have hval : ∀ (j : Nat) t v, Tryz.f9.params[j]? = some t → args[j]? = some v → Value.okWide Tryz.prog W .any base t v := hval0
  have hW' := hW
  obtain ⟨p, q, hA0, hV, rfl, hfz, hnd⟩ := hW
  have hA : DataW.TrodAll enc Tryz.prog W 0 (fun _ => true) true Tryz.f9.params.toList args.toList ds p := hA0
  rw [Tryz.params9] at hA hval
  obtain ⟨v0, vs0, d0, ds0, p0, q0, hargs0, rfl, rfl, t0, r0⟩ := trodAll_cons hA
  obtain ⟨v1, vs1, d1, ds1, p1, q1, hargs1, rfl, rfl, t1, r1⟩ := trodAll_cons r0
  obtain ⟨rfl, rfl, rfl⟩ := trodAll_nil r1
  obtain rfl : args = #[v0, v1] := by cases args; simp_all
  obtain ⟨rfl, rfl⟩ := trodVars_none hV
  have k0 := t0
  have lt0 : ∀ x ∈ p0, x.block < W.heap.size := by obtain ⟨m, hm⟩ := k0; exact DataW.trod_lt m _ _ _ hm
  obtain ⟨a0, pv0, l0, rfl, z0, w0⟩ := Url.open_url (hval 0 27 v0 rfl rfl) t0
  have k1 := t1
  have lt1 : ∀ x ∈ p1, x.block < W.heap.size := by obtain ⟨m, hm⟩ := k1; exact DataW.trod_lt m _ _ _ hm
  obtain ⟨a1, pv1, l1, rfl, z1, w1⟩ := Url.open_url (hval 1 27 v1 rfl rfl) t1
  clear hA0 hval0
  simp only [List.append_nil] at hW'
  refine (walk a0 pv0 l0 a1 pv1 l1  m W hm z0 w0 z1 w1).mono fun e W' ⟨he, bel⟩ => ?_
  subst he
  exact ⟨_, rfl, _, _, _, [], _, [], hW', trodAll_mk1 (shut_bool Tryz.underlying4 _), (trodAll_cons_mk (Below.trod laidOut (by kernel_rfl) (of_decide_eq_true (by kernel_rfl)) k0 bel lt0) (trodAll_cons_mk (Below.trod laidOut (by kernel_rfl) (of_decide_eq_true (by kernel_rfl)) k1 bel lt1) trodAll_mk0)), rfl, bel.frame _, fun h => by cases h⟩

theorem said : Rows.showDoorRow.holds Tryz.pinned (OpenSpec.ofChange Rows.showDoorSpec) :=
  OpenClaim.holds_of_cond 9 Tryz.f9 rfl rfl rfl rfl rfl rfl rfl ⟨rfl, rfl, rfl, rfl, rfl⟩ rfl rfl rfl rfl rfl (by kernel_rfl) Tryz.func9 (by kernel_rfl)
    (of_decide_eq_true (by kernel_rfl)) (by unfold Func.isWrapper; first | (rw [if_pos (by decide +kernel)]; kernel_rfl) | (rw [if_neg (by decide +kernel)]; exact ⟨rfl, rfl⟩))
    (fun os started H enc _ F => by rw [OpenClaim.pre_eq_preRow]; exact lifted os started H enc F)

/-- No parameter wants a stand-in; the program's own looks are on. -/
theorem plain (f : FuncId) (fn : Func) (hf : Tryz.pinned.checked.prog.funcNamed Rows.showDoorRow.func = some f) (hfn : Tryz.pinned.checked.prog.funcs[f]? = some fn) :
    true = Tryz.pinned.checked.prog.looks [] ∧ ∀ (j : Nat) t, fn.params[j]? = some t → Tryz.pinned.checked.prog.wantsStandIn t = false := by
  obtain rfl : f = 9 := Option.some.inj ((show Tryz.prog.funcNamed Rows.showDoorRow.func = some 9 by kernel_rfl).symm.trans hf) |>.symm
  obtain rfl : fn = Tryz.f9 := (Option.some.inj (Tryz.func9.symm.trans hfn)).symm
  refine ⟨by kernel_rfl, fun j t ht => ?_⟩
  rw [Tryz.params9] at ht
  obtain rfl : t = 27 := by simpa using Array.mem_of_getElem? ht
  · exact (show Tryz.prog.wantsStandIn 27 = false by kernel_rfl)

/-- The statement: the card. -/
theorem proved : Rows.ShowDoorCardSaid :=
  Claim7.holds_tied_plain_at .later [] _ _ _ _ said (fun _ h => by cases h) (by kernel_rfl) (fun _ h => by cases h) showDoor_row_tie rfl ⟨rfl, rfl⟩ (by kernel_rfl) rfl plain (by kernel_rfl)
#print axioms proved
end Go.Proofs.YtkjkcgbmfglihaaGreatDoor.showDoor
