/-
  WHAT IS PROVED: the card of JoinInherit: of any three addresses whose parts are few and short: an address with a fragment keeps it; one without has the other one's then; all else stays; twice is as once.
  CONDITIONS: none but the card's own: the listed tables read as their texts lay them; the addresses are any.
-/
import Derived.Test.YtkhjhiofgoampaaGreatDoorCards
import Derived.Test.YtkhjhiofgoampaaGreatDoorTie
import Derived.WalkKit
import Derived.ProofKit
import Derived.OpenShut
import Derived.ShutString
import Derived.ChangeOld
import Derived.Below
import Derived.Deep.RegionHeld
import Derived.Laws.AppendOwnNone
import Derived.Test.YtkhjhiofgoampaaGreatDoorJAwake
import Derived.Test.YtkhjhiofgoampaaGreatDoorLaid
import Derived.Test.YtkhjhiofgoampaaGreatDoorHOpen
namespace Go.Proofs.YtkhjhiofgoampaaGreatDoor.joinInherit
open Go.ChangeShapes Go.WideShapes Go.ChangeAt Go.RowKit
open Go.ChangeMaps (open_string shut_string)
open Go.Shelf
open Go.Proofs.YtkhjhiofgoampaaGreatDoor.Url
open Go.Proofs.YtkhjhiofgoampaaGreatDoor.Host (H)
open Go.Proofs.YtkhjhiofgoampaaGreatDoor.Path (Strs)
set_option linter.unusedSimpArgs false
set_option linter.unusedVariables false

theorem own : ownKnob Tryz.prog.godebug = none := by kernel_rfl
theorem laidOut : laidOutB Tryz.prog = true := by kernel_rfl

open Go.Proofs.YtkhjhiofgoampaaGreatDoor.Show
open Go.Proofs.YtkhjhiofgoampaaGreatDoor.Join
set_option maxRecDepth 100000
set_option maxHeartbeats 16000000 in
theorem walk (a0 : U) (v0 : Value) (l0 : a0.h.p.length = 8) (a1 : U) (v1 : Value) (l1 : a1.h.p.length = 8) (a2 : U) (v2 : Value) (l2 : a2.h.p.length = 8) (m : Int) (w : World) (hm : Six.At m w) (s0 : Path.Strs w v0 a0.path) (w0 : (Lit.int .i64 a0.port).wf = true) (s1 : Path.Strs w v1 a1.path) (w1 : (Lit.int .i64 a1.port).wf = true) (s2 : Path.Strs w v2 a2.path) (w2 : (Lit.int .i64 a2.port).wf = true) :
    Calls Tryz.prog 8 #[.agg (cU a0 v0), .agg (cU a1 v1), .agg (cU a2 v2)] w fun e w' => e = .returned (.bool true) ∧ Below w.heap.size w w' := by
  have e1 : (w.alloc (.cells (cU a0 v0) 27)).heap.size = w.heap.size + 1 := Array.size_push _
  have e2 : ((w.alloc (.cells (cU a0 v0) 27)).alloc (.cells (cU a1 v1) 27)).heap.size = w.heap.size + 2 := by rw [show ((w.alloc (.cells (cU a0 v0) 27)).alloc (.cells (cU a1 v1) 27)).heap.size = (w.alloc (.cells (cU a0 v0) 27)).heap.size + 1 from Array.size_push _, e1]
  have b1 : Below w.heap.size w (w.alloc (.cells (cU a0 v0) 27)) := (Below.refl w.heap.size w).alloc (Nat.le_refl _) _
  have b2 : Below w.heap.size w ((w.alloc (.cells (cU a0 v0) 27)).alloc (.cells (cU a1 v1) 27)) := b1.alloc (by omega) _
  have b3 : Below w.heap.size w (((w.alloc (.cells (cU a0 v0) 27)).alloc (.cells (cU a1 v1) 27)).alloc (.cells (cU a2 v2) 27)) := b2.alloc (by omega) _
  have HX := Lib.hid b3
  have HU0 := Lib.hid (((UrlAt.new w a0 v0).past (.cells (cU a1 v1) 27)).past (.cells (cU a2 v2) 27))
  have HV0 := Lib.hid ((show UrlAt ((w.alloc (.cells (cU a0 v0) 27)).alloc (.cells (cU a1 v1) 27)) (w.heap.size + 1) a1 v1 from by rw [← e1]; exact UrlAt.new (w.alloc (.cells (cU a0 v0) 27)) a1 v1).past (.cells (cU a2 v2) 27))
  have HW0 := Lib.hid (show UrlAt (((w.alloc (.cells (cU a0 v0) 27)).alloc (.cells (cU a1 v1) 27)).alloc (.cells (cU a2 v2) 27)) (w.heap.size + 2) a2 v2 from by rw [← e2]; exact UrlAt.new ((w.alloc (.cells (cU a0 v0) 27)).alloc (.cells (cU a1 v1) 27)) a2 v2)
  have HM0 := Lib.hid (hm.later HX.out)
  have HS0 := Lib.hid (s0.later HX.out)
  have HT0 := Lib.hid (s1.later HX.out)
  have HR0 := Lib.hid (s2.later HX.out)
  clear hm e1 e2 b1 b2 b3 s0 s1 s2
  go_enter Tryz.func8, Tryz.ntmps8
  go_wp2_with fail
  generalize (((w.alloc (.cells (cU a0 v0) 27)).alloc (.cells (cU a1 v1) 27)).alloc (.cells (cU a2 v2) 27)) = X0 at HX HM0 HU0 HS0 HV0 HT0 HW0 HR0 ⊢
  refine (Join.awake_calls m X0 HM0.out).mono ?_
  rintro e X1 ⟨rfl, hB⟩
  have HB1 := Lib.hid (hB)
  have HU1 := Lib.hid (HU0.out.later hB)
  have HV1 := Lib.hid (HV0.out.later hB)
  have HW1 := Lib.hid (HW0.out.later hB)
  have HM1 := Lib.hid (HM0.out.later hB)
  have HS1 := Lib.hid (HS0.out.later hB)
  have HT1 := Lib.hid (HT0.out.later hB)
  have HR1 := Lib.hid (HR0.out.later hB)
  clear HU0 HV0 HW0 HM0 HS0 HT0 HR0
  clear hB
  obtain ⟨f0, hf0⟩ : ∃ b, fewU a0 = b := ⟨_, rfl⟩
  have hu := HU1.out
  go_wp2_with ((with_reducible refine wp_load27 (o := ⟨some 14, .load 27 (.tmp 3), _, _, _, _⟩) ?_ (.tmp 3) ?_ w.heap.size ?_ a0 v0 l0 hu ?_); (· rfl); (· rfl); (· rfl); simp only [Act.put, List.setIfInBounds_toArray, List.set_cons_zero, List.set_cons_succ])
  refine (few_any a0 v0 l0 f0 hf0 _ HS1.out).mono ?_
  rintro e X2 ⟨rfl, hB⟩
  have HB2 := Lib.hid (below_trans HB1.out hB)
  have HU2 := Lib.hid (HU1.out.later hB)
  have HV2 := Lib.hid (HV1.out.later hB)
  have HW2 := Lib.hid (HW1.out.later hB)
  have HM2 := Lib.hid (HM1.out.later hB)
  have HS2 := Lib.hid (HS1.out.later hB)
  have HT2 := Lib.hid (HT1.out.later hB)
  have HR2 := Lib.hid (HR1.out.later hB)
  clear HB1 HU1 HV1 HW1 HM1 HS1 HT1 HR1
  clear hB hu
  obtain ⟨f1, hf1⟩ : ∃ b, fewU a1 = b := ⟨_, rfl⟩
  have hu := HV2.out
  go_wp2_with ((with_reducible refine wp_load27 (o := ⟨some 16, .load 27 (.tmp 4), _, _, _, _⟩) ?_ (.tmp 4) ?_ (w.heap.size + 1) ?_ a1 v1 l1 hu ?_); (· rfl); (· rfl); (· rfl); simp only [Act.put, List.setIfInBounds_toArray, List.set_cons_zero, List.set_cons_succ])
  refine (few_any a1 v1 l1 f1 hf1 _ HT2.out).mono ?_
  rintro e X3 ⟨rfl, hB⟩
  have HB3 := Lib.hid (below_trans HB2.out hB)
  have HU3 := Lib.hid (HU2.out.later hB)
  have HV3 := Lib.hid (HV2.out.later hB)
  have HW3 := Lib.hid (HW2.out.later hB)
  have HM3 := Lib.hid (HM2.out.later hB)
  have HS3 := Lib.hid (HS2.out.later hB)
  have HT3 := Lib.hid (HT2.out.later hB)
  have HR3 := Lib.hid (HR2.out.later hB)
  clear HB2 HU2 HV2 HW2 HM2 HS2 HT2 HR2
  clear hB hu
  obtain ⟨f2, hf2⟩ : ∃ b, fewU a2 = b := ⟨_, rfl⟩
  have hu := HW3.out
  go_wp2_with ((with_reducible refine wp_load27 (o := ⟨some 18, .load 27 (.tmp 5), _, _, _, _⟩) ?_ (.tmp 5) ?_ (w.heap.size + 2) ?_ a2 v2 l2 hu ?_); (· rfl); (· rfl); (· rfl); simp only [Act.put, List.setIfInBounds_toArray, List.set_cons_zero, List.set_cons_succ])
  refine (few_any a2 v2 l2 f2 hf2 _ HR3.out).mono ?_
  rintro e X4 ⟨rfl, hB⟩
  have HB4 := Lib.hid (below_trans HB3.out hB)
  have HU4 := Lib.hid (HU3.out.later hB)
  have HV4 := Lib.hid (HV3.out.later hB)
  have HW4 := Lib.hid (HW3.out.later hB)
  have HM4 := Lib.hid (HM3.out.later hB)
  have HS4 := Lib.hid (HS3.out.later hB)
  have HT4 := Lib.hid (HT3.out.later hB)
  have HR4 := Lib.hid (HR3.out.later hB)
  clear HB3 HU3 HV3 HW3 HM3 HS3 HT3 HR3
  clear hB hu
  cases f0
  · go_wp2
    go_ret
    exact ⟨rfl, HX.out.trans (HB4.out.mono HX.out.size)⟩
  cases f1
  · go_wp2
    go_ret
    exact ⟨rfl, HX.out.trans (HB4.out.mono HX.out.size)⟩
  cases f2
  · go_wp2
    go_ret
    exact ⟨rfl, HX.out.trans (HB4.out.mono HX.out.size)⟩
  have F0 := few_fit a0 l0 hf0
  have F1 := few_fit a1 l1 hf1
  have F2 := few_fit a2 l2 hf2
  obtain ⟨X, hX⟩ : ∃ x, inhU a0 a1 = x := ⟨_, rfl⟩
  have hbare : bareU X = bareU a0 := by rw [← hX]; exact inh_bare a0 a1
  have hFX : Fit X := by
    rw [← hX]; unfold inhU
    split
    · exact F0
    · exact ⟨F0.h8, F0.hs, F0.pn, F0.pt, F0.sch, F0.usr, F0.pas, F0.opq, F0.qry, F1.frg⟩
  have L8 := Lib.hid (show X.h.p.length = 8 from hFX.h8)
  have CI := Lib.hid (fun y hs ht => show Calls Tryz.prog 14 #[.agg (cU a0 v0), .agg (cU a1 v1)] y (Got y X) from by rw [← hX]; exact inherit_any a0 a1 v0 v1 F0 F1 y hs ht)
  have CJ := Lib.hid (fun rv y hs ht => inherit_any X a2 rv v2 hFX F2 y hs ht)
  have CB := Lib.hid (fun rv y hs => show Calls Tryz.prog 23 #[.agg (cU X rv)] y (Got y (bareU a0)) from by rw [← hbare]; exact Show.bare_any X rv hFX y hs)
  have CA := Lib.hid (fun y hs => Show.bare_any a0 v0 F0 y hs)
  have CE := Lib.hid (fun p q y hp hq => same_any (bareU a0) (bareU a0) p q l0 l0 true ((same_iff _ _).2 rfl) y hp hq)
  have CS := Lib.hid (fun p q y hp hq => same_any X X p q hFX.h8 hFX.h8 true ((same_iff _ _).2 rfl) y hp hq)
  obtain ⟨h, hh⟩ : ∃ b, a0.hf = b := ⟨_, rfl⟩
  have HI1 := Lib.hid (show h = true → X = a0 from fun k => by rw [← hX, inh_yes (hh.trans k)])
  have HI2 := Lib.hid (show h = false → X.frg = a1.frg ∧ X.hf = a1.hf from fun k => by rw [← hX, inh_no (hh.trans k)]; exact ⟨rfl, rfl⟩)
  have HH := Lib.hid hh
  have HXI := Lib.hid (show X.hf = true → inhU X a2 = X from fun k => inh_yes k a2)
  clear hf0 hf1 hf2 F0 F1 F2 hX hbare hFX hh
  have hu := HU4.out
  have hv := HV4.out
  go_wp2_with (first | ((with_reducible refine wp_load27 (o := ⟨some 35, .load 27 (.tmp 3), _, _, _, _⟩) ?_ (.tmp 3) ?_ w.heap.size ?_ a0 v0 l0 hu ?_); (· rfl); (· rfl); (· rfl); simp only [Act.put, List.setIfInBounds_toArray, List.set_cons_zero, List.set_cons_succ]) | ((with_reducible refine wp_load27 (o := ⟨some 36, .load 27 (.tmp 4), _, _, _, _⟩) ?_ (.tmp 4) ?_ (w.heap.size + 1) ?_ a1 v1 l1 hv ?_); (· rfl); (· rfl); (· rfl); simp only [Act.put, List.setIfInBounds_toArray, List.set_cons_zero, List.set_cons_succ]))
  refine (CI.out _ HS4.out HT4.out).mono ?_
  rintro e X5 ⟨rv, rfl, hst, hn, hB⟩
  clear hu hv CI
  have hone := strs_one hst
  have hnew := new_url X5
  have hB2 := below_trans hB (below_url X5 X rv)
  have HB5 := Lib.hid (below_trans HB4.out hB2)
  have HU5 := Lib.hid (HU4.out.later hB2)
  have HV5 := Lib.hid (HV4.out.later hB2)
  have HW5 := Lib.hid (HW4.out.later hB2)
  have HM5 := Lib.hid (HM4.out.later hB2)
  have HS5 := Lib.hid (HS4.out.later hB2)
  have HT5 := Lib.hid (HT4.out.later hB2)
  have HR5 := Lib.hid (HR4.out.later hB2)
  have HZ5 := Lib.hid (hst.later (below_url X5 X rv))
  have HY5 := Lib.hid (hnew.row X rv)
  clear HB4 HU4 HV4 HW4 HM4 HS4 HT4 HR4 hst hn hB hB2
  go_wp2_with ((with_reducible refine wp_store27 (o := ⟨none, .store 27 (.tmp 11) (.tmp 37), _, _, _, _⟩) ?_ (.tmp 11) (.tmp 37) ?_ X5.heap.size ?_ X rv ?_ L8.out hone none1 (.slice none 0 0) rfl hnew ?_); (· rfl); (· rfl); (· rfl); (· rfl); simp only [Act.put, List.setIfInBounds_toArray, List.set_cons_zero, List.set_cons_succ])
  generalize (X5.alloc (.cells #[.string ⟨#[]⟩, .string ⟨#[]⟩, .string ⟨#[]⟩, .int .i64 0, .string ⟨#[]⟩, .int .i64 0, .int .i64 0, .int .i64 0, .int .i64 0, .int .i64 0, .int .i64 0, .int .i64 0, .int .i64 0, .int .i64 0, .int .i64 0, .slice none 0 0, .string ⟨#[]⟩, .string ⟨#[]⟩, .string ⟨#[]⟩, .bool false, .bool false] 27)).setRow X5.heap.size (cU X rv) = V5 at HB5 HU5 HV5 HW5 HM5 HS5 HT5 HR5 HZ5 HY5 ⊢
  generalize X5.heap.size = g1 at HY5 ⊢
  clear hnew hone
  have hc : Below V5.heap.size V5 V5.drew := (Below.refl _ _).drew
  go_wp2_with fail
  refine wp_region_held_drew (S := fun v => UrlAt v g1 X rv ∧ UrlAt v w.heap.size a0 v0) (by kernel_rfl) ⟨HY5.out.later hc, HU5.out.later hc⟩ (fun hS => ?_)
  refine wpAnyH_take (i := 0) (oi := ⟨some 38, .load 27 (.tmp 11), _, _, _, _⟩) (v := .agg (cU X rv)) rfl (by kernel_rfl) (by kernel_rfl) (by kernel_rfl) (fun _ _ _ h => h) (Or.inl ⟨by rfl, ?_⟩) (by assumption) ?_
  · (exact fun v hv => run_load_of 27 (.tmp 11) ⟨g1, 0, none⟩ rfl (.agg (cU X rv)) (hv.1.load L8.out))
  simp only [Act.put, List.setIfInBounds_toArray, List.set_cons_zero, List.set_cons_succ]
  refine wpAnyH_take (i := 2) (oi := ⟨some 40, .load 27 (.tmp 3), _, _, _, _⟩) (v := .agg (cU a0 v0)) rfl (by kernel_rfl) (by kernel_rfl) (by kernel_rfl) (fun _ _ _ h => h) (Or.inl ⟨by rfl, ?_⟩) (by assumption) ?_
  · (exact fun v hv => run_load_of 27 (.tmp 3) ⟨w.heap.size, 0, none⟩ rfl (.agg (cU a0 v0)) (hv.2.load l0))
  simp only [Act.put, List.setIfInBounds_toArray, List.set_cons_zero, List.set_cons_succ]
  refine wpAnyH_ready (rs := [1]) (by kernel_rfl) (by simp) ?_
  refine AllReadyH.cons (o := ⟨some 39, .call ⟨.value (.func 23), #[.tmp 38], _⟩, _, _, _, _⟩) rfl (fun K hK => ?_) AllReadyH.nil
  go_simp
  go_at_call 23
  refine (CB.out rv _ (HZ5.out.later hc)).mono ?_
  rintro e x ⟨pv, rfl, hpv, hnw, hB⟩
  have hc := below_trans hc hB
  refine hK.out _ _ ⟨HY5.out.later hc, HU5.out.later hc⟩ (fun hS => ?_)
  clear hB hnw
  refine wpAnyH_ready (rs := [3]) (by kernel_rfl) (by simp) ?_
  refine AllReadyH.cons (o := ⟨some 41, .call ⟨.value (.func 23), #[.tmp 40], _⟩, _, _, _, _⟩) rfl (fun K hK => ?_) AllReadyH.nil
  go_simp
  go_at_call 23
  refine (CA.out _ (HS5.out.later hc)).mono ?_
  rintro e x ⟨qv, rfl, hqv, hnw, hB⟩
  have hc := below_trans hc hB
  have hpv := hpv.later hB
  refine hK.out _ _ ⟨HY5.out.later hc, HU5.out.later hc⟩ (fun hS => ?_)
  clear hB hnw
  refine wpAnyH_ready (rs := [4]) (by kernel_rfl) (by simp) ?_
  refine AllReadyH.cons (o := ⟨some 42, .call ⟨.value (.func 18), #[.tmp 39, .tmp 41], _⟩, _, _, _, _⟩) rfl (fun K hK => ?_) AllReadyH.nil
  go_simp
  go_at_call 18
  refine (CE.out pv qv _ hpv hqv).mono ?_
  rintro e x ⟨rfl, hB⟩
  have hc := below_trans hc hB
  refine hK.out _ _ ⟨HY5.out.later hc, HU5.out.later hc⟩ (fun hS => ?_)
  clear hB hpv hqv
  refine wpAnyH_take (i := 5) (oi := ⟨some 12, .assign (.tmp 42), _, _, _, _⟩) (v := .bool true) rfl (by kernel_rfl) (by kernel_rfl) (by kernel_rfl) (fun _ _ _ h => h) (Or.inl ⟨by rfl, ?_⟩) (by assumption) ?_
  · (intro v hv; go_simp)
  simp only [Act.put, List.setIfInBounds_toArray, List.set_cons_zero, List.set_cons_succ]
  refine wpAnyH_done (by kernel_rfl) ?_ _
  clear hS CB CA CE
  obtain ⟨Z, hZ⟩ : ∃ y, y = x := ⟨_, rfl⟩
  subst hZ
  have hB := hc
  have HB6 := Lib.hid (below_trans HB5.out hB)
  have HU6 := Lib.hid (HU5.out.later hB)
  have HV6 := Lib.hid (HV5.out.later hB)
  have HW6 := Lib.hid (HW5.out.later hB)
  have HM6 := Lib.hid (HM5.out.later hB)
  have HS6 := Lib.hid (HS5.out.later hB)
  have HT6 := Lib.hid (HT5.out.later hB)
  have HR6 := Lib.hid (HR5.out.later hB)
  have HY6 := Lib.hid (HY5.out.later hB)
  have HZ6 := Lib.hid (HZ5.out.later hB)
  clear HB5 HU5 HV5 HW5 HM5 HS5 HT5 HR5 HY5 HZ5
  clear hB hc
  have c20 := HU6.out.cell 20
  rw [(cU_at a0 v0 l0).2.2.2.2.2.2.2.2.2.2, HH.out] at c20
  cases h
  · go_wp2_with fail
    clear c20
    obtain ⟨y1, y2⟩ := HI2.out (by first | rfl | trivial)
    obtain ⟨b1, hb1⟩ : ∃ b, a1.hf = b := ⟨_, rfl⟩
    obtain ⟨F, hF⟩ : ∃ b, tb a1.frg = b := ⟨_, rfl⟩
    have K1 := Lib.hid hb1
    have KF := Lib.hid hF
    have Y1 := Lib.hid y1
    have Y2 := Lib.hid y2
    clear hb1 hF y1 y2 HI1 HI2 HH
    cases b1
    · have hc : Below Z.heap.size Z Z.drew := (Below.refl _ _).drew
      refine wp_region_held_drew (S := fun v => UrlAt v g1 X rv ∧ UrlAt v (w.heap.size + 1) a1 v1 ∧ UrlAt v (w.heap.size + 2) a2 v2) (by kernel_rfl) ⟨HY6.out.later hc, HV6.out.later hc, HW6.out.later hc⟩ (fun hS => ?_)
      refine wpAnyH_take (i := 0) (oi := ⟨some 51, .move (.tmp 12), _, _, _, _⟩) (v := .bool true) rfl (by kernel_rfl) (by kernel_rfl) (by kernel_rfl) (fun _ _ _ h => h) (Or.inl ⟨by rfl, ?_⟩) (by assumption) ?_
      · (intro v hv; go_simp)
      simp only [Act.put, List.setIfInBounds_toArray, List.set_cons_zero, List.set_cons_succ]
      refine wpAnyH_take (i := 1) (oi := ⟨some 52, .move (.tmp 51), _, _, _, _⟩) (v := .bool true) rfl (by kernel_rfl) (by kernel_rfl) (by kernel_rfl) (fun _ _ _ h => h) (Or.inl ⟨by rfl, ?_⟩) (by assumption) ?_
      · (intro v hv; go_simp)
      simp only [Act.put, List.setIfInBounds_toArray, List.set_cons_zero, List.set_cons_succ]
      refine wpAnyH_take (i := 2) (oi := ⟨some 53, .fieldAddr 27 (.tmp 11) 10, _, _, _, _⟩) (v := .pointer (some ⟨g1, 20, none⟩)) rfl (by kernel_rfl) (by kernel_rfl) (by kernel_rfl) (fun _ _ _ h => h) (Or.inl ⟨by rfl, ?_⟩) (by assumption) ?_
      · (intro v hv; go_simp)
      simp only [Act.put, List.setIfInBounds_toArray, List.set_cons_zero, List.set_cons_succ]
      refine wpAnyH_take (i := 3) (oi := ⟨some 54, .load 4 (.tmp 53), _, _, _, _⟩) (v := .bool false) rfl (by kernel_rfl) (by kernel_rfl) (by kernel_rfl) (fun _ _ _ h => h) (Or.inl ⟨by rfl, ?_⟩) (by assumption) ?_
      · (exact fun v hv => run_load_of 4 (.tmp 53) ⟨g1, 20, none⟩ rfl (.bool false) (by have := load4 ((hv.1.cell 20).trans (cU_at X rv L8.out).2.2.2.2.2.2.2.2.2.2); rw [Y2.out, K1.out] at this; exact this))
      simp only [Act.put, List.setIfInBounds_toArray, List.set_cons_zero, List.set_cons_succ]
      refine wpAnyH_take (i := 4) (oi := ⟨some 55, .fieldAddr 27 (.tmp 4) 10, _, _, _, _⟩) (v := .pointer (some ⟨(w.heap.size + 1), 20, none⟩)) rfl (by kernel_rfl) (by kernel_rfl) (by kernel_rfl) (fun _ _ _ h => h) (Or.inl ⟨by rfl, ?_⟩) (by assumption) ?_
      · (intro v hv; go_simp)
      simp only [Act.put, List.setIfInBounds_toArray, List.set_cons_zero, List.set_cons_succ]
      refine wpAnyH_take (i := 5) (oi := ⟨some 56, .load 4 (.tmp 55), _, _, _, _⟩) (v := .bool false) rfl (by kernel_rfl) (by kernel_rfl) (by kernel_rfl) (fun _ _ _ h => h) (Or.inl ⟨by rfl, ?_⟩) (by assumption) ?_
      · (exact fun v hv => run_load_of 4 (.tmp 55) ⟨w.heap.size + 1, 20, none⟩ rfl (.bool false) (by have := load4 ((hv.2.1.cell 20).trans (cU_at a1 v1 l1).2.2.2.2.2.2.2.2.2.2); rw [K1.out] at this; exact this))
      simp only [Act.put, List.setIfInBounds_toArray, List.set_cons_zero, List.set_cons_succ]
      refine wpAnyH_take (i := 6) (oi := ⟨some 57, .binOp .eql 4 (.tmp 54) (.tmp 56) 4, _, _, _, _⟩) (v := .bool true) rfl (by kernel_rfl) (by kernel_rfl) (by kernel_rfl) (fun _ _ _ h => h) (Or.inl ⟨by rfl, ?_⟩) (by assumption) ?_
      · (intro v hv; go_simp)
      simp only [Act.put, List.setIfInBounds_toArray, List.set_cons_zero, List.set_cons_succ]
      refine wpAnyH_take (i := 7) (oi := ⟨some 58, .pick (.tmp 52) (.tmp 57) (.const (.bool false)), _, _, _, _⟩) (v := .bool true) rfl (by kernel_rfl) (by kernel_rfl) (by kernel_rfl) (fun _ _ _ h => h) (Or.inl ⟨by rfl, ?_⟩) (by assumption) ?_
      · (intro v hv; go_simp)
      simp only [Act.put, List.setIfInBounds_toArray, List.set_cons_zero, List.set_cons_succ]
      refine wpAnyH_take (i := 8) (oi := ⟨some 59, .move (.tmp 58), _, _, _, _⟩) (v := .bool true) rfl (by kernel_rfl) (by kernel_rfl) (by kernel_rfl) (fun _ _ _ h => h) (Or.inl ⟨by rfl, ?_⟩) (by assumption) ?_
      · (intro v hv; go_simp)
      simp only [Act.put, List.setIfInBounds_toArray, List.set_cons_zero, List.set_cons_succ]
      refine wpAnyH_take (i := 9) (oi := ⟨some 60, .fieldAddr 27 (.tmp 11) 8, _, _, _, _⟩) (v := .pointer (some ⟨g1, 18, none⟩)) rfl (by kernel_rfl) (by kernel_rfl) (by kernel_rfl) (fun _ _ _ h => h) (Or.inl ⟨by rfl, ?_⟩) (by assumption) ?_
      · (intro v hv; go_simp)
      simp only [Act.put, List.setIfInBounds_toArray, List.set_cons_zero, List.set_cons_succ]
      refine wpAnyH_take (i := 10) (oi := ⟨some 61, .load 9 (.tmp 60), _, _, _, _⟩) (v := .string F) rfl (by kernel_rfl) (by kernel_rfl) (by kernel_rfl) (fun _ _ _ h => h) (Or.inl ⟨by rfl, ?_⟩) (by assumption) ?_
      · (exact fun v hv => run_load_of 9 (.tmp 60) ⟨g1, 18, none⟩ rfl (.string F) (by have := load9 ((hv.1.cell 18).trans (cU_at X rv L8.out).2.2.2.2.2.2.2.2.1); rw [Y1.out, KF.out] at this; exact this))
      simp only [Act.put, List.setIfInBounds_toArray, List.set_cons_zero, List.set_cons_succ]
      refine wpAnyH_take (i := 11) (oi := ⟨some 62, .fieldAddr 27 (.tmp 4) 8, _, _, _, _⟩) (v := .pointer (some ⟨(w.heap.size + 1), 18, none⟩)) rfl (by kernel_rfl) (by kernel_rfl) (by kernel_rfl) (fun _ _ _ h => h) (Or.inl ⟨by rfl, ?_⟩) (by assumption) ?_
      · (intro v hv; go_simp)
      simp only [Act.put, List.setIfInBounds_toArray, List.set_cons_zero, List.set_cons_succ]
      refine wpAnyH_take (i := 12) (oi := ⟨some 63, .load 9 (.tmp 62), _, _, _, _⟩) (v := .string F) rfl (by kernel_rfl) (by kernel_rfl) (by kernel_rfl) (fun _ _ _ h => h) (Or.inl ⟨by rfl, ?_⟩) (by assumption) ?_
      · (exact fun v hv => run_load_of 9 (.tmp 62) ⟨w.heap.size + 1, 18, none⟩ rfl (.string F) (by have := load9 ((hv.2.1.cell 18).trans (cU_at a1 v1 l1).2.2.2.2.2.2.2.2.1); rw [KF.out] at this; exact this))
      simp only [Act.put, List.setIfInBounds_toArray, List.set_cons_zero, List.set_cons_succ]
      refine wpAnyH_take (i := 13) (oi := ⟨some 64, .binOp .eql 9 (.tmp 61) (.tmp 63) 9, _, _, _, _⟩) (v := .bool true) rfl (by kernel_rfl) (by kernel_rfl) (by kernel_rfl) (fun _ _ _ h => h) (Or.inl ⟨by rfl, ?_⟩) (by assumption) ?_
      · (intro v hv; go_simp)
      simp only [Act.put, List.setIfInBounds_toArray, List.set_cons_zero, List.set_cons_succ]
      refine wpAnyH_take (i := 14) (oi := ⟨some 65, .pick (.tmp 59) (.tmp 64) (.const (.bool false)), _, _, _, _⟩) (v := .bool true) rfl (by kernel_rfl) (by kernel_rfl) (by kernel_rfl) (fun _ _ _ h => h) (Or.inl ⟨by rfl, ?_⟩) (by assumption) ?_
      · (intro v hv; go_simp)
      simp only [Act.put, List.setIfInBounds_toArray, List.set_cons_zero, List.set_cons_succ]
      refine wpAnyH_take (i := 15) (oi := ⟨some 66, .move (.tmp 65), _, _, _, _⟩) (v := .bool true) rfl (by kernel_rfl) (by kernel_rfl) (by kernel_rfl) (fun _ _ _ h => h) (Or.inl ⟨by rfl, ?_⟩) (by assumption) ?_
      · (intro v hv; go_simp)
      simp only [Act.put, List.setIfInBounds_toArray, List.set_cons_zero, List.set_cons_succ]
      refine wpAnyH_take (i := 16) (oi := ⟨some 67, .fieldAddr 27 (.tmp 4) 10, _, _, _, _⟩) (v := .pointer (some ⟨(w.heap.size + 1), 20, none⟩)) rfl (by kernel_rfl) (by kernel_rfl) (by kernel_rfl) (fun _ _ _ h => h) (Or.inl ⟨by rfl, ?_⟩) (by assumption) ?_
      · (intro v hv; go_simp)
      simp only [Act.put, List.setIfInBounds_toArray, List.set_cons_zero, List.set_cons_succ]
      refine wpAnyH_take (i := 17) (oi := ⟨some 68, .load 4 (.tmp 67), _, _, _, _⟩) (v := .bool false) rfl (by kernel_rfl) (by kernel_rfl) (by kernel_rfl) (fun _ _ _ h => h) (Or.inl ⟨by rfl, ?_⟩) (by assumption) ?_
      · (exact fun v hv => run_load_of 4 (.tmp 67) ⟨w.heap.size + 1, 20, none⟩ rfl (.bool false) (by have := load4 ((hv.2.1.cell 20).trans (cU_at a1 v1 l1).2.2.2.2.2.2.2.2.2.2); rw [K1.out] at this; exact this))
      simp only [Act.put, List.setIfInBounds_toArray, List.set_cons_zero, List.set_cons_succ]
      refine wpAnyH_take (i := 18) (oi := ⟨some 69, .unOp .not 4 (.tmp 68), _, _, _, _⟩) (v := .bool true) rfl (by kernel_rfl) (by kernel_rfl) (by kernel_rfl) (fun _ _ _ h => h) (Or.inl ⟨by rfl, ?_⟩) (by assumption) ?_
      · (intro v hv; go_simp)
      simp only [Act.put, List.setIfInBounds_toArray, List.set_cons_zero, List.set_cons_succ]
      refine wpAnyH_take (i := 19) (oi := ⟨some 70, .move (.tmp 69), _, _, _, _⟩) (v := .bool true) rfl (by kernel_rfl) (by kernel_rfl) (by kernel_rfl) (fun _ _ _ h => h) (Or.inl ⟨by rfl, ?_⟩) (by assumption) ?_
      · (intro v hv; go_simp)
      simp only [Act.put, List.setIfInBounds_toArray, List.set_cons_zero, List.set_cons_succ]
      refine wpAnyH_take (i := 20) (oi := ⟨some 71, .load 27 (.tmp 11), _, _, _, _⟩) (v := undef) rfl (by kernel_rfl) (by kernel_rfl) (by kernel_rfl) (fun _ _ _ h => h) (Or.inr ⟨by rfl, rfl⟩) (by assumption) ?_
      simp only [Act.put, List.setIfInBounds_toArray, List.set_cons_zero, List.set_cons_succ]
      refine wpAnyH_take (i := 21) (oi := ⟨some 72, .load 27 (.tmp 5), _, _, _, _⟩) (v := undef) rfl (by kernel_rfl) (by kernel_rfl) (by kernel_rfl) (fun _ _ _ h => h) (Or.inr ⟨by rfl, rfl⟩) (by assumption) ?_
      simp only [Act.put, List.setIfInBounds_toArray, List.set_cons_zero, List.set_cons_succ]
      refine wpAnyH_take (i := 22) (oi := ⟨some 73, .call ⟨.value (.func 14), #[.tmp 71, .tmp 72], _⟩, _, _, _, _⟩) (v := undef) rfl (by kernel_rfl) (by kernel_rfl) (by kernel_rfl) (fun _ _ _ h => h) (Or.inr ⟨by rfl, rfl⟩) (by assumption) ?_
      simp only [Act.put, List.setIfInBounds_toArray, List.set_cons_zero, List.set_cons_succ]
      refine wpAnyH_take (i := 23) (oi := ⟨some 74, .load 27 (.tmp 11), _, _, _, _⟩) (v := undef) rfl (by kernel_rfl) (by kernel_rfl) (by kernel_rfl) (fun _ _ _ h => h) (Or.inr ⟨by rfl, rfl⟩) (by assumption) ?_
      simp only [Act.put, List.setIfInBounds_toArray, List.set_cons_zero, List.set_cons_succ]
      refine wpAnyH_take (i := 24) (oi := ⟨some 75, .call ⟨.value (.func 18), #[.tmp 73, .tmp 74], _⟩, _, _, _, _⟩) (v := undef) rfl (by kernel_rfl) (by kernel_rfl) (by kernel_rfl) (fun _ _ _ h => h) (Or.inr ⟨by rfl, rfl⟩) (by assumption) ?_
      simp only [Act.put, List.setIfInBounds_toArray, List.set_cons_zero, List.set_cons_succ]
      refine wpAnyH_take (i := 25) (oi := ⟨some 76, .pick (.tmp 70) (.const (.bool true)) (.tmp 75), _, _, _, _⟩) (v := .bool true) rfl (by kernel_rfl) (by kernel_rfl) (by kernel_rfl) (fun _ _ _ h => h) (Or.inl ⟨by rfl, ?_⟩) (by assumption) ?_
      · (intro v hv; go_simp)
      simp only [Act.put, List.setIfInBounds_toArray, List.set_cons_zero, List.set_cons_succ]
      refine wpAnyH_take (i := 26) (oi := ⟨some 77, .pick (.tmp 66) (.tmp 76) (.const (.bool false)), _, _, _, _⟩) (v := .bool true) rfl (by kernel_rfl) (by kernel_rfl) (by kernel_rfl) (fun _ _ _ h => h) (Or.inl ⟨by rfl, ?_⟩) (by assumption) ?_
      · (intro v hv; go_simp)
      simp only [Act.put, List.setIfInBounds_toArray, List.set_cons_zero, List.set_cons_succ]
      refine wpAnyH_take (i := 27) (oi := ⟨some 6, .assign (.tmp 77), _, _, _, _⟩) (v := .bool true) rfl (by kernel_rfl) (by kernel_rfl) (by kernel_rfl) (fun _ _ _ h => h) (Or.inl ⟨by rfl, ?_⟩) (by assumption) ?_
      · (intro v hv; go_simp)
      simp only [Act.put, List.setIfInBounds_toArray, List.set_cons_zero, List.set_cons_succ]
      refine wpAnyH_done (by kernel_rfl) ?_ _
      go_wp2
      go_ret
      exact ⟨rfl, HX.out.trans ((below_trans HB6.out hc).mono HX.out.size)⟩
    · have CJ2 := Lib.hid (fun rv y hs ht => show Calls Tryz.prog 14 #[.agg (cU X rv), .agg (cU a2 v2)] y (Got y X) from by have := CJ.out rv y hs ht; rw [HXI.out (Y2.out.trans K1.out)] at this; exact this)
      clear CJ HXI
      have hc : Below Z.heap.size Z Z.drew := (Below.refl _ _).drew
      refine wp_region_held_drew (S := fun v => UrlAt v g1 X rv ∧ UrlAt v (w.heap.size + 1) a1 v1 ∧ UrlAt v (w.heap.size + 2) a2 v2) (by kernel_rfl) ⟨HY6.out.later hc, HV6.out.later hc, HW6.out.later hc⟩ (fun hS => ?_)
      refine wpAnyH_take (i := 0) (oi := ⟨some 51, .move (.tmp 12), _, _, _, _⟩) (v := .bool true) rfl (by kernel_rfl) (by kernel_rfl) (by kernel_rfl) (fun _ _ _ h => h) (Or.inl ⟨by rfl, ?_⟩) (by assumption) ?_
      · (intro v hv; go_simp)
      simp only [Act.put, List.setIfInBounds_toArray, List.set_cons_zero, List.set_cons_succ]
      refine wpAnyH_take (i := 1) (oi := ⟨some 52, .move (.tmp 51), _, _, _, _⟩) (v := .bool true) rfl (by kernel_rfl) (by kernel_rfl) (by kernel_rfl) (fun _ _ _ h => h) (Or.inl ⟨by rfl, ?_⟩) (by assumption) ?_
      · (intro v hv; go_simp)
      simp only [Act.put, List.setIfInBounds_toArray, List.set_cons_zero, List.set_cons_succ]
      refine wpAnyH_take (i := 2) (oi := ⟨some 53, .fieldAddr 27 (.tmp 11) 10, _, _, _, _⟩) (v := .pointer (some ⟨g1, 20, none⟩)) rfl (by kernel_rfl) (by kernel_rfl) (by kernel_rfl) (fun _ _ _ h => h) (Or.inl ⟨by rfl, ?_⟩) (by assumption) ?_
      · (intro v hv; go_simp)
      simp only [Act.put, List.setIfInBounds_toArray, List.set_cons_zero, List.set_cons_succ]
      refine wpAnyH_take (i := 3) (oi := ⟨some 54, .load 4 (.tmp 53), _, _, _, _⟩) (v := .bool true) rfl (by kernel_rfl) (by kernel_rfl) (by kernel_rfl) (fun _ _ _ h => h) (Or.inl ⟨by rfl, ?_⟩) (by assumption) ?_
      · (exact fun v hv => run_load_of 4 (.tmp 53) ⟨g1, 20, none⟩ rfl (.bool true) (by have := load4 ((hv.1.cell 20).trans (cU_at X rv L8.out).2.2.2.2.2.2.2.2.2.2); rw [Y2.out, K1.out] at this; exact this))
      simp only [Act.put, List.setIfInBounds_toArray, List.set_cons_zero, List.set_cons_succ]
      refine wpAnyH_take (i := 4) (oi := ⟨some 55, .fieldAddr 27 (.tmp 4) 10, _, _, _, _⟩) (v := .pointer (some ⟨(w.heap.size + 1), 20, none⟩)) rfl (by kernel_rfl) (by kernel_rfl) (by kernel_rfl) (fun _ _ _ h => h) (Or.inl ⟨by rfl, ?_⟩) (by assumption) ?_
      · (intro v hv; go_simp)
      simp only [Act.put, List.setIfInBounds_toArray, List.set_cons_zero, List.set_cons_succ]
      refine wpAnyH_take (i := 5) (oi := ⟨some 56, .load 4 (.tmp 55), _, _, _, _⟩) (v := .bool true) rfl (by kernel_rfl) (by kernel_rfl) (by kernel_rfl) (fun _ _ _ h => h) (Or.inl ⟨by rfl, ?_⟩) (by assumption) ?_
      · (exact fun v hv => run_load_of 4 (.tmp 55) ⟨w.heap.size + 1, 20, none⟩ rfl (.bool true) (by have := load4 ((hv.2.1.cell 20).trans (cU_at a1 v1 l1).2.2.2.2.2.2.2.2.2.2); rw [K1.out] at this; exact this))
      simp only [Act.put, List.setIfInBounds_toArray, List.set_cons_zero, List.set_cons_succ]
      refine wpAnyH_take (i := 6) (oi := ⟨some 57, .binOp .eql 4 (.tmp 54) (.tmp 56) 4, _, _, _, _⟩) (v := .bool true) rfl (by kernel_rfl) (by kernel_rfl) (by kernel_rfl) (fun _ _ _ h => h) (Or.inl ⟨by rfl, ?_⟩) (by assumption) ?_
      · (intro v hv; go_simp)
      simp only [Act.put, List.setIfInBounds_toArray, List.set_cons_zero, List.set_cons_succ]
      refine wpAnyH_take (i := 7) (oi := ⟨some 58, .pick (.tmp 52) (.tmp 57) (.const (.bool false)), _, _, _, _⟩) (v := .bool true) rfl (by kernel_rfl) (by kernel_rfl) (by kernel_rfl) (fun _ _ _ h => h) (Or.inl ⟨by rfl, ?_⟩) (by assumption) ?_
      · (intro v hv; go_simp)
      simp only [Act.put, List.setIfInBounds_toArray, List.set_cons_zero, List.set_cons_succ]
      refine wpAnyH_take (i := 8) (oi := ⟨some 59, .move (.tmp 58), _, _, _, _⟩) (v := .bool true) rfl (by kernel_rfl) (by kernel_rfl) (by kernel_rfl) (fun _ _ _ h => h) (Or.inl ⟨by rfl, ?_⟩) (by assumption) ?_
      · (intro v hv; go_simp)
      simp only [Act.put, List.setIfInBounds_toArray, List.set_cons_zero, List.set_cons_succ]
      refine wpAnyH_take (i := 9) (oi := ⟨some 60, .fieldAddr 27 (.tmp 11) 8, _, _, _, _⟩) (v := .pointer (some ⟨g1, 18, none⟩)) rfl (by kernel_rfl) (by kernel_rfl) (by kernel_rfl) (fun _ _ _ h => h) (Or.inl ⟨by rfl, ?_⟩) (by assumption) ?_
      · (intro v hv; go_simp)
      simp only [Act.put, List.setIfInBounds_toArray, List.set_cons_zero, List.set_cons_succ]
      refine wpAnyH_take (i := 10) (oi := ⟨some 61, .load 9 (.tmp 60), _, _, _, _⟩) (v := .string F) rfl (by kernel_rfl) (by kernel_rfl) (by kernel_rfl) (fun _ _ _ h => h) (Or.inl ⟨by rfl, ?_⟩) (by assumption) ?_
      · (exact fun v hv => run_load_of 9 (.tmp 60) ⟨g1, 18, none⟩ rfl (.string F) (by have := load9 ((hv.1.cell 18).trans (cU_at X rv L8.out).2.2.2.2.2.2.2.2.1); rw [Y1.out, KF.out] at this; exact this))
      simp only [Act.put, List.setIfInBounds_toArray, List.set_cons_zero, List.set_cons_succ]
      refine wpAnyH_take (i := 11) (oi := ⟨some 62, .fieldAddr 27 (.tmp 4) 8, _, _, _, _⟩) (v := .pointer (some ⟨(w.heap.size + 1), 18, none⟩)) rfl (by kernel_rfl) (by kernel_rfl) (by kernel_rfl) (fun _ _ _ h => h) (Or.inl ⟨by rfl, ?_⟩) (by assumption) ?_
      · (intro v hv; go_simp)
      simp only [Act.put, List.setIfInBounds_toArray, List.set_cons_zero, List.set_cons_succ]
      refine wpAnyH_take (i := 12) (oi := ⟨some 63, .load 9 (.tmp 62), _, _, _, _⟩) (v := .string F) rfl (by kernel_rfl) (by kernel_rfl) (by kernel_rfl) (fun _ _ _ h => h) (Or.inl ⟨by rfl, ?_⟩) (by assumption) ?_
      · (exact fun v hv => run_load_of 9 (.tmp 62) ⟨w.heap.size + 1, 18, none⟩ rfl (.string F) (by have := load9 ((hv.2.1.cell 18).trans (cU_at a1 v1 l1).2.2.2.2.2.2.2.2.1); rw [KF.out] at this; exact this))
      simp only [Act.put, List.setIfInBounds_toArray, List.set_cons_zero, List.set_cons_succ]
      refine wpAnyH_take (i := 13) (oi := ⟨some 64, .binOp .eql 9 (.tmp 61) (.tmp 63) 9, _, _, _, _⟩) (v := .bool true) rfl (by kernel_rfl) (by kernel_rfl) (by kernel_rfl) (fun _ _ _ h => h) (Or.inl ⟨by rfl, ?_⟩) (by assumption) ?_
      · (intro v hv; go_simp)
      simp only [Act.put, List.setIfInBounds_toArray, List.set_cons_zero, List.set_cons_succ]
      refine wpAnyH_take (i := 14) (oi := ⟨some 65, .pick (.tmp 59) (.tmp 64) (.const (.bool false)), _, _, _, _⟩) (v := .bool true) rfl (by kernel_rfl) (by kernel_rfl) (by kernel_rfl) (fun _ _ _ h => h) (Or.inl ⟨by rfl, ?_⟩) (by assumption) ?_
      · (intro v hv; go_simp)
      simp only [Act.put, List.setIfInBounds_toArray, List.set_cons_zero, List.set_cons_succ]
      refine wpAnyH_take (i := 15) (oi := ⟨some 66, .move (.tmp 65), _, _, _, _⟩) (v := .bool true) rfl (by kernel_rfl) (by kernel_rfl) (by kernel_rfl) (fun _ _ _ h => h) (Or.inl ⟨by rfl, ?_⟩) (by assumption) ?_
      · (intro v hv; go_simp)
      simp only [Act.put, List.setIfInBounds_toArray, List.set_cons_zero, List.set_cons_succ]
      refine wpAnyH_take (i := 16) (oi := ⟨some 67, .fieldAddr 27 (.tmp 4) 10, _, _, _, _⟩) (v := .pointer (some ⟨(w.heap.size + 1), 20, none⟩)) rfl (by kernel_rfl) (by kernel_rfl) (by kernel_rfl) (fun _ _ _ h => h) (Or.inl ⟨by rfl, ?_⟩) (by assumption) ?_
      · (intro v hv; go_simp)
      simp only [Act.put, List.setIfInBounds_toArray, List.set_cons_zero, List.set_cons_succ]
      refine wpAnyH_take (i := 17) (oi := ⟨some 68, .load 4 (.tmp 67), _, _, _, _⟩) (v := .bool true) rfl (by kernel_rfl) (by kernel_rfl) (by kernel_rfl) (fun _ _ _ h => h) (Or.inl ⟨by rfl, ?_⟩) (by assumption) ?_
      · (exact fun v hv => run_load_of 4 (.tmp 67) ⟨w.heap.size + 1, 20, none⟩ rfl (.bool true) (by have := load4 ((hv.2.1.cell 20).trans (cU_at a1 v1 l1).2.2.2.2.2.2.2.2.2.2); rw [K1.out] at this; exact this))
      simp only [Act.put, List.setIfInBounds_toArray, List.set_cons_zero, List.set_cons_succ]
      refine wpAnyH_take (i := 18) (oi := ⟨some 69, .unOp .not 4 (.tmp 68), _, _, _, _⟩) (v := .bool false) rfl (by kernel_rfl) (by kernel_rfl) (by kernel_rfl) (fun _ _ _ h => h) (Or.inl ⟨by rfl, ?_⟩) (by assumption) ?_
      · (intro v hv; go_simp)
      simp only [Act.put, List.setIfInBounds_toArray, List.set_cons_zero, List.set_cons_succ]
      refine wpAnyH_take (i := 19) (oi := ⟨some 70, .move (.tmp 69), _, _, _, _⟩) (v := .bool false) rfl (by kernel_rfl) (by kernel_rfl) (by kernel_rfl) (fun _ _ _ h => h) (Or.inl ⟨by rfl, ?_⟩) (by assumption) ?_
      · (intro v hv; go_simp)
      simp only [Act.put, List.setIfInBounds_toArray, List.set_cons_zero, List.set_cons_succ]
      refine wpAnyH_take (i := 20) (oi := ⟨some 71, .load 27 (.tmp 11), _, _, _, _⟩) (v := .agg (cU X rv)) rfl (by kernel_rfl) (by kernel_rfl) (by kernel_rfl) (fun _ _ _ h => h) (Or.inl ⟨by rfl, ?_⟩) (by assumption) ?_
      · (exact fun v hv => run_load_of 27 (.tmp 11) ⟨g1, 0, none⟩ rfl (.agg (cU X rv)) (hv.1.load L8.out))
      simp only [Act.put, List.setIfInBounds_toArray, List.set_cons_zero, List.set_cons_succ]
      refine wpAnyH_take (i := 21) (oi := ⟨some 72, .load 27 (.tmp 5), _, _, _, _⟩) (v := .agg (cU a2 v2)) rfl (by kernel_rfl) (by kernel_rfl) (by kernel_rfl) (fun _ _ _ h => h) (Or.inl ⟨by rfl, ?_⟩) (by assumption) ?_
      · (exact fun v hv => run_load_of 27 (.tmp 5) ⟨(w.heap.size + 2), 0, none⟩ rfl (.agg (cU a2 v2)) (hv.2.2.load l2))
      simp only [Act.put, List.setIfInBounds_toArray, List.set_cons_zero, List.set_cons_succ]
      refine wpAnyH_take (i := 23) (oi := ⟨some 74, .load 27 (.tmp 11), _, _, _, _⟩) (v := .agg (cU X rv)) rfl (by kernel_rfl) (by kernel_rfl) (by kernel_rfl) (fun _ _ _ h => h) (Or.inl ⟨by rfl, ?_⟩) (by assumption) ?_
      · (exact fun v hv => run_load_of 27 (.tmp 11) ⟨g1, 0, none⟩ rfl (.agg (cU X rv)) (hv.1.load L8.out))
      simp only [Act.put, List.setIfInBounds_toArray, List.set_cons_zero, List.set_cons_succ]
      refine wpAnyH_ready (rs := [22]) (by kernel_rfl) (by simp) ?_
      refine AllReadyH.cons (o := ⟨some 73, .call ⟨.value (.func 14), #[.tmp 71, .tmp 72], _⟩, _, _, _, _⟩) rfl (fun K hK => ?_) AllReadyH.nil
      go_simp
      go_at_call 14
      refine (CJ2.out rv _ (HZ6.out.later hc) (HR6.out.later hc)).mono ?_
      rintro e x ⟨sv, rfl, hsv, hnw, hB⟩
      have hc := below_trans hc hB
      refine hK.out _ _ ⟨HY6.out.later hc, HV6.out.later hc, HW6.out.later hc⟩ (fun hS => ?_)
      clear hB hnw
      refine wpAnyH_ready (rs := [24]) (by kernel_rfl) (by simp) ?_
      refine AllReadyH.cons (o := ⟨some 75, .call ⟨.value (.func 18), #[.tmp 73, .tmp 74], _⟩, _, _, _, _⟩) rfl (fun K hK => ?_) AllReadyH.nil
      go_simp
      go_at_call 18
      refine (CS.out sv rv _ hsv (HZ6.out.later hc)).mono ?_
      rintro e x ⟨rfl, hB⟩
      have hc := below_trans hc hB
      refine hK.out _ _ ⟨HY6.out.later hc, HV6.out.later hc, HW6.out.later hc⟩ (fun hS => ?_)
      clear hB hsv
      refine wpAnyH_take (i := 25) (oi := ⟨some 76, .pick (.tmp 70) (.const (.bool true)) (.tmp 75), _, _, _, _⟩) (v := .bool true) rfl (by kernel_rfl) (by kernel_rfl) (by kernel_rfl) (fun _ _ _ h => h) (Or.inl ⟨by rfl, ?_⟩) (by assumption) ?_
      · (intro v hv; go_simp)
      simp only [Act.put, List.setIfInBounds_toArray, List.set_cons_zero, List.set_cons_succ]
      refine wpAnyH_take (i := 26) (oi := ⟨some 77, .pick (.tmp 66) (.tmp 76) (.const (.bool false)), _, _, _, _⟩) (v := .bool true) rfl (by kernel_rfl) (by kernel_rfl) (by kernel_rfl) (fun _ _ _ h => h) (Or.inl ⟨by rfl, ?_⟩) (by assumption) ?_
      · (intro v hv; go_simp)
      simp only [Act.put, List.setIfInBounds_toArray, List.set_cons_zero, List.set_cons_succ]
      refine wpAnyH_take (i := 27) (oi := ⟨some 6, .assign (.tmp 77), _, _, _, _⟩) (v := .bool true) rfl (by kernel_rfl) (by kernel_rfl) (by kernel_rfl) (fun _ _ _ h => h) (Or.inl ⟨by rfl, ?_⟩) (by assumption) ?_
      · (intro v hv; go_simp)
      simp only [Act.put, List.setIfInBounds_toArray, List.set_cons_zero, List.set_cons_succ]
      refine wpAnyH_done (by kernel_rfl) ?_ _
      go_wp2
      go_ret
      exact ⟨rfl, HX.out.trans ((below_trans HB6.out hc).mono HX.out.size)⟩
  · have y := HI1.out (by first | rfl | trivial)
    have HYa := Lib.hid (show UrlAt Z g1 a0 rv from by rw [← y]; exact HY6.out)
    have HZa := Lib.hid (show Path.Strs Z rv a0.path from by rw [← y]; exact HZ6.out)
    have CSa := Lib.hid (show ∀ p q y (hp : Path.Strs y p a0.path) (hq : Path.Strs y q a0.path), Calls Tryz.prog 18 #[.agg (cU a0 p), .agg (cU a0 q)] y fun e w' => e = .returned (.bool true) ∧ Below y.heap.size y w' from fun p q y hp hq => same_any a0 a0 p q l0 l0 true ((same_iff _ _).2 rfl) y hp hq)
    clear y CS CJ HI1 HI2 HXI
    have hu := HU6.out
    have hy := HYa.out
    go_wp2_with (first | ((with_reducible refine wp_load27 (o := ⟨some 47, .load 27 (.tmp 11), _, _, _, _⟩) ?_ (.tmp 11) ?_ g1 ?_ a0 rv l0 hy ?_); (· rfl); (· rfl); (· rfl); simp only [Act.put, List.setIfInBounds_toArray, List.set_cons_zero, List.set_cons_succ]) | ((with_reducible refine wp_load27 (o := ⟨some 48, .load 27 (.tmp 3), _, _, _, _⟩) ?_ (.tmp 3) ?_ w.heap.size ?_ a0 v0 l0 hu ?_); (· rfl); (· rfl); (· rfl); simp only [Act.put, List.setIfInBounds_toArray, List.set_cons_zero, List.set_cons_succ]))
    refine (CSa.out rv v0 _ HZa.out HS6.out).mono ?_
    rintro e Y ⟨rfl, hB⟩
    go_wp2
    go_ret
    exact ⟨rfl, HX.out.trans ((below_trans HB6.out hB).mono HX.out.size)⟩

/-! ### The row's step -/
theorem reads (os : Os) {H : Type} (enc : TypeId × Value → H) : (DataW.whole enc Tryz.prog ((Card.laidWorld os).forCall (fun _ _ => 0) ⟨#[], #[.agg #[.string ByteArray.empty, .string ByteArray.empty, .string ByteArray.empty, .int .i64 0, .string ByteArray.empty, .int .i64 0, .int .i64 0, .int .i64 0, .int .i64 0, .int .i64 0, .int .i64 0, .int .i64 0, .int .i64 0, .int .i64 0, .int .i64 0, .slice none 0 0, .string ByteArray.empty, .string ByteArray.empty, .string ByteArray.empty, .bool false, .bool false], .agg #[.string ByteArray.empty, .string ByteArray.empty, .string ByteArray.empty, .int .i64 0, .string ByteArray.empty, .int .i64 0, .int .i64 0, .int .i64 0, .int .i64 0, .int .i64 0, .int .i64 0, .int .i64 0, .int .i64 0, .int .i64 0, .int .i64 0, .slice none 0 0, .string ByteArray.empty, .string ByteArray.empty, .string ByteArray.empty, .bool false, .bool false], .agg #[.string ByteArray.empty, .string ByteArray.empty, .string ByteArray.empty, .int .i64 0, .string ByteArray.empty, .int .i64 0, .int .i64 0, .int .i64 0, .int .i64 0, .int .i64 0, .int .i64 0, .int .i64 0, .int .i64 0, .int .i64 0, .int .i64 0, .slice none 0 0, .string ByteArray.empty, .string ByteArray.empty, .string ByteArray.empty, .bool false, .bool false]], []⟩).memory Tryz.f8.params.toList Rows.joinInheritSpec.vars false (#[.agg #[.string ByteArray.empty, .string ByteArray.empty, .string ByteArray.empty, .int .i64 0, .string ByteArray.empty, .int .i64 0, .int .i64 0, .int .i64 0, .int .i64 0, .int .i64 0, .int .i64 0, .int .i64 0, .int .i64 0, .int .i64 0, .int .i64 0, .slice none 0 0, .string ByteArray.empty, .string ByteArray.empty, .string ByteArray.empty, .bool false, .bool false], .agg #[.string ByteArray.empty, .string ByteArray.empty, .string ByteArray.empty, .int .i64 0, .string ByteArray.empty, .int .i64 0, .int .i64 0, .int .i64 0, .int .i64 0, .int .i64 0, .int .i64 0, .int .i64 0, .int .i64 0, .int .i64 0, .int .i64 0, .slice none 0 0, .string ByteArray.empty, .string ByteArray.empty, .string ByteArray.empty, .bool false, .bool false], .agg #[.string ByteArray.empty, .string ByteArray.empty, .string ByteArray.empty, .int .i64 0, .string ByteArray.empty, .int .i64 0, .int .i64 0, .int .i64 0, .int .i64 0, .int .i64 0, .int .i64 0, .int .i64 0, .int .i64 0, .int .i64 0, .int .i64 0, .slice none 0 0, .string ByteArray.empty, .string ByteArray.empty, .string ByteArray.empty, .bool false, .bool false]] : Array Value).toList 8).map (fun x => (x.1, x.2.1)) = some ([.agg [.lit (.string []), .lit (.string []), .lit (.string []), .agg [.lit (.int .i64 0), .lit (.string []), .lit (.int .i64 0), .agg [.lit (.int .i64 0), .lit (.int .i64 0), .lit (.int .i64 0), .lit (.int .i64 0), .lit (.int .i64 0), .lit (.int .i64 0), .lit (.int .i64 0), .lit (.int .i64 0)]], .lit (.int .i64 0), .nil, .lit (.string []), .lit (.string []), .lit (.string []), .lit (.bool false), .lit (.bool false)], .agg [.lit (.string []), .lit (.string []), .lit (.string []), .agg [.lit (.int .i64 0), .lit (.string []), .lit (.int .i64 0), .agg [.lit (.int .i64 0), .lit (.int .i64 0), .lit (.int .i64 0), .lit (.int .i64 0), .lit (.int .i64 0), .lit (.int .i64 0), .lit (.int .i64 0), .lit (.int .i64 0)]], .lit (.int .i64 0), .nil, .lit (.string []), .lit (.string []), .lit (.string []), .lit (.bool false), .lit (.bool false)], .agg [.lit (.string []), .lit (.string []), .lit (.string []), .agg [.lit (.int .i64 0), .lit (.string []), .lit (.int .i64 0), .agg [.lit (.int .i64 0), .lit (.int .i64 0), .lit (.int .i64 0), .lit (.int .i64 0), .lit (.int .i64 0), .lit (.int .i64 0), .lit (.int .i64 0), .lit (.int .i64 0)]], .lit (.int .i64 0), .nil, .lit (.string []), .lit (.string []), .lit (.string []), .lit (.bool false), .lit (.bool false)]], []) := by kernel_rfl
set_option maxRecDepth 100000 in
theorem lifted (os : Os) (started : os.Started) (H : Type) (enc : TypeId × Value → H) (F : Stop.Interp) :
    ReturnsInHanded {} Tryz.checked os 8 .any ((OpenSpec.ofChange Rows.joinInheritSpec).preRow enc Tryz.prog Tryz.f8 Rows.joinInheritRow.domain false Rows.joinInheritRow.laid) (((OpenSpec.ofChange Rows.joinInheritSpec).at F).post enc Tryz.prog Tryz.f8 false true false false) := by
  obtain ⟨⟨x1, x2, x3⟩, hx, hx1⟩ := Option.map_eq_some_iff.1 (reads os enc)
  simp only [Prod.mk.injEq] at hx1
  obtain ⟨rfl, rfl⟩ := hx1
  refine returnsInHanded_of_row (C := Tryz.checked) (s := OpenSpec.ofChange Rows.joinInheritSpec) own started (by kernel_rfl) Tryz.func8
    (witness_row_at (enc := enc) (C := Tryz.checked) false (Card.laidWorld os) #[.agg #[.string ByteArray.empty, .string ByteArray.empty, .string ByteArray.empty, .int .i64 0, .string ByteArray.empty, .int .i64 0, .int .i64 0, .int .i64 0, .int .i64 0, .int .i64 0, .int .i64 0, .int .i64 0, .int .i64 0, .int .i64 0, .int .i64 0, .slice none 0 0, .string ByteArray.empty, .string ByteArray.empty, .string ByteArray.empty, .bool false, .bool false], .agg #[.string ByteArray.empty, .string ByteArray.empty, .string ByteArray.empty, .int .i64 0, .string ByteArray.empty, .int .i64 0, .int .i64 0, .int .i64 0, .int .i64 0, .int .i64 0, .int .i64 0, .int .i64 0, .int .i64 0, .int .i64 0, .int .i64 0, .slice none 0 0, .string ByteArray.empty, .string ByteArray.empty, .string ByteArray.empty, .bool false, .bool false], .agg #[.string ByteArray.empty, .string ByteArray.empty, .string ByteArray.empty, .int .i64 0, .string ByteArray.empty, .int .i64 0, .int .i64 0, .int .i64 0, .int .i64 0, .int .i64 0, .int .i64 0, .int .i64 0, .int .i64 0, .int .i64 0, .int .i64 0, .slice none 0 0, .string ByteArray.empty, .string ByteArray.empty, .string ByteArray.empty, .bool false, .bool false]] rfl (by kernel_rfl) (by kernel_rfl) (by kernel_rfl)
      (OpenSpec.preRow_of_cond 8 hx (by kernel_rfl) (fun k hk => by cases hk) (by kernel_rfl) (Card.laid_met os _))) ?_
  intro W base args ds gs before hval0 hW _ _ _ hL hsh _
  obtain ⟨m, hmax⟩ := Card.maxLen_int hsh
  have hm : Six.At m W := ⟨hmax, Six.tab_of hL⟩
  have hval : ∀ (j : Nat) t v, Tryz.f8.params[j]? = some t → args[j]? = some v → Value.okWide Tryz.prog W .any base t v := hval0
  have hW' := hW
  obtain ⟨p, q, hA0, hV, rfl, hfz, hnd⟩ := hW
  have hA : DataW.TrodAll enc Tryz.prog W 0 (fun _ => true) true Tryz.f8.params.toList args.toList ds p := hA0
  rw [Tryz.params8] at hA hval
  obtain ⟨v0, vs0, d0, ds0, p0, q0, hargs0, rfl, rfl, t0, r0⟩ := trodAll_cons hA
  obtain ⟨v1, vs1, d1, ds1, p1, q1, hargs1, rfl, rfl, t1, r1⟩ := trodAll_cons r0
  obtain ⟨v2, vs2, d2, ds2, p2, q2, hargs2, rfl, rfl, t2, r2⟩ := trodAll_cons r1
  obtain ⟨rfl, rfl, rfl⟩ := trodAll_nil r2
  obtain rfl : args = #[v0, v1, v2] := by cases args; simp_all
  obtain ⟨rfl, rfl⟩ := trodVars_none hV
  have k0 := t0
  have lt0 : ∀ x ∈ p0, x.block < W.heap.size := by obtain ⟨m, hm⟩ := k0; exact DataW.trod_lt m _ _ _ hm
  obtain ⟨a0, pv0, l0, rfl, z0, w0⟩ := Url.open_url (hval 0 27 v0 rfl rfl) t0
  have k1 := t1
  have lt1 : ∀ x ∈ p1, x.block < W.heap.size := by obtain ⟨m, hm⟩ := k1; exact DataW.trod_lt m _ _ _ hm
  obtain ⟨a1, pv1, l1, rfl, z1, w1⟩ := Url.open_url (hval 1 27 v1 rfl rfl) t1
  have k2 := t2
  have lt2 : ∀ x ∈ p2, x.block < W.heap.size := by obtain ⟨m, hm⟩ := k2; exact DataW.trod_lt m _ _ _ hm
  obtain ⟨a2, pv2, l2, rfl, z2, w2⟩ := Url.open_url (hval 2 27 v2 rfl rfl) t2
  clear hA0 hval0
  simp only [List.append_nil] at hW'
  refine (walk a0 pv0 l0 a1 pv1 l1 a2 pv2 l2  m W hm z0 w0 z1 w1 z2 w2).mono fun e W' ⟨he, bel⟩ => ?_
  subst he
  exact ⟨_, rfl, _, _, _, [], _, [], hW', trodAll_mk1 (shut_bool Tryz.underlying4 _), (trodAll_cons_mk (Below.trod laidOut (by kernel_rfl) (of_decide_eq_true (by kernel_rfl)) k0 bel lt0) (trodAll_cons_mk (Below.trod laidOut (by kernel_rfl) (of_decide_eq_true (by kernel_rfl)) k1 bel lt1) (trodAll_cons_mk (Below.trod laidOut (by kernel_rfl) (of_decide_eq_true (by kernel_rfl)) k2 bel lt2) trodAll_mk0))), rfl, bel.frame _, fun h => by cases h⟩

theorem said : Rows.joinInheritRow.holds Tryz.pinned (OpenSpec.ofChange Rows.joinInheritSpec) :=
  OpenClaim.holds_of_cond 8 Tryz.f8 rfl rfl rfl rfl rfl rfl rfl ⟨rfl, rfl, rfl, rfl, rfl⟩ rfl rfl rfl rfl rfl (by kernel_rfl) Tryz.func8 (by kernel_rfl)
    (of_decide_eq_true (by kernel_rfl)) (by unfold Func.isWrapper; first | (rw [if_pos (by decide +kernel)]; kernel_rfl) | (rw [if_neg (by decide +kernel)]; exact ⟨rfl, rfl⟩))
    (fun os started H enc _ F => by rw [OpenClaim.pre_eq_preRow]; exact lifted os started H enc F)

/-- No parameter wants a stand-in; the program's own looks are on. -/
theorem plain (f : FuncId) (fn : Func) (hf : Tryz.pinned.checked.prog.funcNamed Rows.joinInheritRow.func = some f) (hfn : Tryz.pinned.checked.prog.funcs[f]? = some fn) :
    true = Tryz.pinned.checked.prog.looks [] ∧ ∀ (j : Nat) t, fn.params[j]? = some t → Tryz.pinned.checked.prog.wantsStandIn t = false := by
  obtain rfl : f = 8 := Option.some.inj ((show Tryz.prog.funcNamed Rows.joinInheritRow.func = some 8 by kernel_rfl).symm.trans hf) |>.symm
  obtain rfl : fn = Tryz.f8 := (Option.some.inj (Tryz.func8.symm.trans hfn)).symm
  refine ⟨by kernel_rfl, fun j t ht => ?_⟩
  rw [Tryz.params8] at ht
  obtain rfl : t = 27 := by simpa using Array.mem_of_getElem? ht
  · exact (show Tryz.prog.wantsStandIn 27 = false by kernel_rfl)

/-- The statement: the card. -/
theorem proved : Rows.JoinInheritCardSaid :=
  Claim7.holds_tied_plain_at .later [] _ _ _ _ said (fun _ h => by cases h) (by kernel_rfl) (fun _ h => by cases h) joinInherit_row_tie rfl ⟨rfl, rfl⟩ (by kernel_rfl) rfl plain (by kernel_rfl)
#print axioms proved
end Go.Proofs.YtkhjhiofgoampaaGreatDoor.joinInherit
