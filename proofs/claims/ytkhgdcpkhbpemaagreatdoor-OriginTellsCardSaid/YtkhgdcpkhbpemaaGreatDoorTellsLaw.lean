/-
  WHAT IS PROVED: the card of OriginTells: of any two addresses whose parts are few and short, and any two origins whose texts are of at most 300 bytes: the origin, what may be, is the same, is shown, is to be trusted and has one origin are as the document's own functions say.
  CONDITIONS: none but the card's own: the listed tables read as their texts lay them; the addresses and the origins are any.
-/
import Derived.Test.YtkhgdcpkhbpemaaGreatDoorCards
import Derived.Test.YtkhgdcpkhbpemaaGreatDoorTie
import Derived.WalkKit
import Derived.ProofKit
import Derived.OpenShut
import Derived.ShutString
import Derived.ChangeOld
import Derived.Below
import Derived.Deep.RegionHeld
import Derived.Laws.AppendOwnNone
import Derived.Test.YtkhgdcpkhbpemaaGreatDoorOAwake
import Derived.Test.YtkhgdcpkhbpemaaGreatDoorORef
import Derived.Test.YtkhgdcpkhbpemaaGreatDoorLaid
import Derived.Test.YtkhgdcpkhbpemaaGreatDoorHOpen
namespace Go.Proofs.YtkhgdcpkhbpemaaGreatDoor.originTells
open Go.ChangeShapes Go.WideShapes Go.ChangeAt Go.RowKit
open Go.ChangeMaps (open_string shut_string)
open Go.Shelf
open Go.Proofs.YtkhgdcpkhbpemaaGreatDoor.Url
open Go.Proofs.YtkhgdcpkhbpemaaGreatDoor.Host (H)
open Go.Proofs.YtkhgdcpkhbpemaaGreatDoor.Path (Strs)
set_option linter.unusedSimpArgs false
set_option linter.unusedVariables false

theorem own : ownKnob Tryz.prog.godebug = none := by kernel_rfl
theorem laidOut : laidOutB Tryz.prog = true := by kernel_rfl

open Go.Proofs.YtkhgdcpkhbpemaaGreatDoor.Show
open Go.Proofs.YtkhgdcpkhbpemaaGreatDoor.Origin
theorem few_path {u : U} (h : fewU u = true) : u.path.length ≤ 60 ∧ ∀ t ∈ u.path, t.length ≤ 300 := by
  unfold fewU at h
  rw [Bool.and_eq_true] at h
  exact (Path.few_iff _).1 h.1
set_option maxRecDepth 100000
set_option maxHeartbeats 16000000 in
theorem walk (a0 : U) (v0 : Value) (l0 : a0.h.p.length = 8) (a1 : U) (v1 : Value) (l1 : a1.h.p.length = 8) (a2 : O) (l2 : a2.h.p.length = 8) (a3 : O) (l3 : a3.h.p.length = 8) (w2 : (Lit.int .i64 a2.port).wf = true) (w3 : (Lit.int .i64 a3.port).wf = true) (m : Int) (w : World) (hm : Six.At m w) (s0 : Path.Strs w v0 a0.path) (w0 : (Lit.int .i64 a0.port).wf = true) (s1 : Path.Strs w v1 a1.path) (w1 : (Lit.int .i64 a1.port).wf = true) :
    Calls Tryz.prog 3 #[.agg (cU a0 v0), .agg (cU a1 v1), .agg (cO a2), .agg (cO a3)] w fun e w' => e = .returned (.bool true) ∧ Below w.heap.size w w' := by
  have e1 : (w.alloc (.cells (cU a0 v0) 27)).heap.size = w.heap.size + 1 := Array.size_push _
  have e2 : ((w.alloc (.cells (cU a0 v0) 27)).alloc (.cells (cU a1 v1) 27)).heap.size = w.heap.size + 2 := by rw [show ((w.alloc (.cells (cU a0 v0) 27)).alloc (.cells (cU a1 v1) 27)).heap.size = (w.alloc (.cells (cU a0 v0) 27)).heap.size + 1 from Array.size_push _, e1]
  have e3 : (((w.alloc (.cells (cU a0 v0) 27)).alloc (.cells (cU a1 v1) 27)).alloc (.cells (cO a2) 29)).heap.size = w.heap.size + 3 := by rw [show (((w.alloc (.cells (cU a0 v0) 27)).alloc (.cells (cU a1 v1) 27)).alloc (.cells (cO a2) 29)).heap.size = ((w.alloc (.cells (cU a0 v0) 27)).alloc (.cells (cU a1 v1) 27)).heap.size + 1 from Array.size_push _, e2]
  have b1 : Below w.heap.size w (w.alloc (.cells (cU a0 v0) 27)) := (Below.refl w.heap.size w).alloc (Nat.le_refl _) _
  have b2 : Below w.heap.size w ((w.alloc (.cells (cU a0 v0) 27)).alloc (.cells (cU a1 v1) 27)) := b1.alloc (by omega) _
  have b3 : Below w.heap.size w (((w.alloc (.cells (cU a0 v0) 27)).alloc (.cells (cU a1 v1) 27)).alloc (.cells (cO a2) 29)) := b2.alloc (by omega) _
  have b4 : Below w.heap.size w ((((w.alloc (.cells (cU a0 v0) 27)).alloc (.cells (cU a1 v1) 27)).alloc (.cells (cO a2) 29)).alloc (.cells (cO a3) 29)) := b3.alloc (by omega) _
  have HX := Lib.hid b4
  have HU0 := Lib.hid ((((UrlAt.new w a0 v0).past (.cells (cU a1 v1) 27)).past (.cells (cO a2) 29)).past (.cells (cO a3) 29))
  have HV0 := Lib.hid (((show UrlAt ((w.alloc (.cells (cU a0 v0) 27)).alloc (.cells (cU a1 v1) 27)) (w.heap.size + 1) a1 v1 from by rw [← e1]; exact UrlAt.new (w.alloc (.cells (cU a0 v0) 27)) a1 v1).past (.cells (cO a2) 29)).past (.cells (cO a3) 29))
  have HO0 := Lib.hid ((show OAt (((w.alloc (.cells (cU a0 v0) 27)).alloc (.cells (cU a1 v1) 27)).alloc (.cells (cO a2) 29)) (w.heap.size + 2) a2 from by rw [← e2]; exact OAt.new ((w.alloc (.cells (cU a0 v0) 27)).alloc (.cells (cU a1 v1) 27)) a2).past (.cells (cO a3) 29))
  have HP0 := Lib.hid (show OAt ((((w.alloc (.cells (cU a0 v0) 27)).alloc (.cells (cU a1 v1) 27)).alloc (.cells (cO a2) 29)).alloc (.cells (cO a3) 29)) (w.heap.size + 3) a3 from by rw [← e3]; exact OAt.new (((w.alloc (.cells (cU a0 v0) 27)).alloc (.cells (cU a1 v1) 27)).alloc (.cells (cO a2) 29)) a3)
  have HM0 := Lib.hid (hm.later HX.out)
  have HS0 := Lib.hid (s0.later HX.out)
  have HT0 := Lib.hid (s1.later HX.out)
  clear hm e1 e2 e3 b1 b2 b3 b4 s0 s1
  go_enter Tryz.func3, Tryz.ntmps3
  go_wp2_with fail
  generalize ((((w.alloc (.cells (cU a0 v0) 27)).alloc (.cells (cU a1 v1) 27)).alloc (.cells (cO a2) 29)).alloc (.cells (cO a3) 29)) = X0 at HX HM0 HU0 HV0 HO0 HP0 HS0 HT0 ⊢
  refine (Origin.awake_calls m X0 HM0.out).mono ?_
  rintro e X1 ⟨rfl, hB⟩
  have HB1 := Lib.hid (hB)
  have HU1 := Lib.hid (HU0.out.later hB)
  have HV1 := Lib.hid (HV0.out.later hB)
  have HO1 := Lib.hid (HO0.out.later hB)
  have HP1 := Lib.hid (HP0.out.later hB)
  have HM1 := Lib.hid (HM0.out.later hB)
  have HS1 := Lib.hid (HS0.out.later hB)
  have HT1 := Lib.hid (HT0.out.later hB)
  clear HU0 HV0 HO0 HP0 HM0 HS0 HT0
  clear hB
  obtain ⟨f0, hf0⟩ : ∃ b, fewU a0 = b := ⟨_, rfl⟩
  have hu := HU1.out
  go_wp2_with ((with_reducible refine wp_load27 (o := ⟨some 17, .load 27 (.tmp 4), _, _, _, _⟩) ?_ (.tmp 4) ?_ w.heap.size ?_ a0 v0 l0 hu ?_); (· rfl); (· rfl); (· rfl); simp only [Act.put, List.setIfInBounds_toArray, List.set_cons_zero, List.set_cons_succ])
  refine (few_any a0 v0 l0 f0 hf0 _ HS1.out).mono ?_
  rintro e X2 ⟨rfl, hB⟩
  have HB2 := Lib.hid (below_trans HB1.out hB)
  have HU2 := Lib.hid (HU1.out.later hB)
  have HV2 := Lib.hid (HV1.out.later hB)
  have HO2 := Lib.hid (HO1.out.later hB)
  have HP2 := Lib.hid (HP1.out.later hB)
  have HM2 := Lib.hid (HM1.out.later hB)
  have HS2 := Lib.hid (HS1.out.later hB)
  have HT2 := Lib.hid (HT1.out.later hB)
  clear HB1 HU1 HV1 HO1 HP1 HM1 HS1 HT1
  clear hB hu
  obtain ⟨f1, hf1⟩ : ∃ b, fewU a1 = b := ⟨_, rfl⟩
  have hu := HV2.out
  go_wp2_with ((with_reducible refine wp_load27 (o := ⟨some 19, .load 27 (.tmp 5), _, _, _, _⟩) ?_ (.tmp 5) ?_ (w.heap.size + 1) ?_ a1 v1 l1 hu ?_); (· rfl); (· rfl); (· rfl); simp only [Act.put, List.setIfInBounds_toArray, List.set_cons_zero, List.set_cons_succ])
  refine (few_any a1 v1 l1 f1 hf1 _ HT2.out).mono ?_
  rintro e X3 ⟨rfl, hB⟩
  have HB3 := Lib.hid (below_trans HB2.out hB)
  have HU3 := Lib.hid (HU2.out.later hB)
  have HV3 := Lib.hid (HV2.out.later hB)
  have HO3 := Lib.hid (HO2.out.later hB)
  have HP3 := Lib.hid (HP2.out.later hB)
  have HM3 := Lib.hid (HM2.out.later hB)
  have HS3 := Lib.hid (HS2.out.later hB)
  have HT3 := Lib.hid (HT2.out.later hB)
  clear HB2 HU2 HV2 HO2 HP2 HM2 HS2 HT2
  clear hB hu
  cases f0
  · go_wp2
    go_ret
    exact ⟨rfl, HX.out.trans (HB3.out.mono HX.out.size)⟩
  cases f1
  · go_wp2
    go_ret
    exact ⟨rfl, HX.out.trans (HB3.out.mono HX.out.size)⟩
  obtain ⟨N2, hN2⟩ : ∃ n, tb a2.sch = n := ⟨_, rfl⟩
  obtain ⟨N3, hN3⟩ : ∃ n, tb a3.sch = n := ⟨_, rfl⟩
  obtain ⟨D1, hD1⟩ : ∃ b, decide (300 < N2.size) = b := ⟨_, rfl⟩
  obtain ⟨D2, hD2⟩ : ∃ b, decide (300 < a2.h.s.size) = b := ⟨_, rfl⟩
  obtain ⟨D3, hD3⟩ : ∃ b, decide (300 < N3.size) = b := ⟨_, rfl⟩
  obtain ⟨D4, hD4⟩ : ∃ b, decide (300 < a3.h.s.size) = b := ⟨_, rfl⟩
  have hE1 : decide ((300 : Int) < (N2.size : Int)) = D1 := by rw [← hD1]; exact decide_eq_decide.2 (by omega)
  have hE2 : decide ((300 : Int) < (a2.h.s.size : Int)) = D2 := by rw [← hD2]; exact decide_eq_decide.2 (by omega)
  have hE3 : decide ((300 : Int) < (N3.size : Int)) = D3 := by rw [← hD3]; exact decide_eq_decide.2 (by omega)
  have hE4 : decide ((300 : Int) < (a3.h.s.size : Int)) = D4 := by rw [← hD4]; exact decide_eq_decide.2 (by omega)
  have o1 := (HO3.out.cells l2).2.1
  rw [hN2] at o1
  have o3 := HO3.out.name l2
  have p1 := (HP3.out.cells l3).2.1
  rw [hN3] at p1
  have p3 := HP3.out.name l3
  have HN2 := Lib.hid hN2
  have HN3 := Lib.hid hN3
  clear hN2 hN3
  cases D1
  rotate_left
  · go_wp2
    go_ret
    exact ⟨rfl, HX.out.trans (HB3.out.mono HX.out.size)⟩
  cases D2
  rotate_left
  · go_wp2
    go_ret
    exact ⟨rfl, HX.out.trans (HB3.out.mono HX.out.size)⟩
  cases D3
  rotate_left
  · go_wp2
    go_ret
    exact ⟨rfl, HX.out.trans (HB3.out.mono HX.out.size)⟩
  cases D4
  rotate_left
  · go_wp2
    go_ret
    exact ⟨rfl, HX.out.trans (HB3.out.mono HX.out.size)⟩
  have hs2 : a2.h.s.size ≤ 1000 := by have := of_decide_eq_false hD2; omega
  have hs3 : a3.h.s.size ≤ 1000 := by have := of_decide_eq_false hD4; omega
  have hl2 : a2.sch.length ≤ 1000000 := by have := of_decide_eq_false hD1; rw [← size_tb HN2.out]; omega
  have hl3 : a3.sch.length ≤ 1000000 := by have := of_decide_eq_false hD3; rw [← size_tb HN3.out]; omega
  have F0 := few_fit a0 l0 hf0
  have F1 := few_fit a1 l1 hf1
  have P0 : ∀ t ∈ a0.path, t.length ≤ 30000 := fun t ht => by have := (few_path hf0).2 t ht; omega
  have P1 : ∀ t ∈ a1.path, t.length ≤ 30000 := fun t ht => by have := (few_path hf1).2 t ht; omega
  have hw2 : -9223372036854775808 ≤ a2.port ∧ a2.port ≤ 9223372036854775807 := by
    have h := w2
    simp [Lit.wf] at h
    exact h
  obtain ⟨o, ho⟩ : ∃ o, ofU a0 = o := ⟨_, rfl⟩
  obtain ⟨M, hM⟩ : ∃ b, mayO a2 = b := ⟨_, rfl⟩
  obtain ⟨r, hr⟩ : ∃ b, sameO a2 a3 = b := ⟨_, rfl⟩
  obtain ⟨S, hS⟩ : ∃ n, tb (showO a2) = n := ⟨_, rfl⟩
  obtain ⟨t, ht⟩ : ∃ b, trustU a0 = b := ⟨_, rfl⟩
  obtain ⟨c, hc⟩ : ∃ b, bothU a0 a1 = b := ⟨_, rfl⟩
  have o8 : o.h.p.length = 8 := by rw [← ho]; exact of_len a0 l0
  have RM := Lib.hid (fun y => refMayO_any a2 l2 hs2 M hM y)
  have RS := Lib.hid (fun y => refSameO_any a2 a3 l2 l3 hs2 hs3 r hr y)
  have RT := Lib.hid (fun y hs => refTrust_any a0 v0 F0 P0 t ht y hs)
  have RB := Lib.hid (fun y hs ht => refBoth_any a0 a1 v0 v1 F0 F1 P0 P1 c hc y hs ht)
  have CO := Lib.hid (fun y hm hs => of_any a0 v0 F0 o ho m y hm hs)
  have RO := Lib.hid (fun y hs => refOf_any a0 v0 F0 P0 o ho y hs)
  have CM := Lib.hid (fun y hm => omay_any a2 l2 hs2 hl2 M hM m y hm)
  have CS := Lib.hid (fun y hm => osame_any a2 a3 l2 l3 hs2 hl2 r hr m y hm)
  have CW := Lib.hid (fun y hm => oshow_any a2 l2 hs2 hl2 S hS m y hm)
  have RW := Lib.hid (fun y => refShowO_any a2 l2 hs2 hl2 hw2 S hS y)
  have CT := Lib.hid (fun y hm hs => trust_any a0 v0 F0 t ht m y hm hs)
  have CB := Lib.hid (fun y hm hs hs' => both_any a0 a1 v0 v1 F0 F1 c hc m y hm hs hs')
  have heq := fun y => eq29 o o o8 o8 true ((eqO_iff o o).2 rfl) y
  have HEQ := Lib.hid heq
  clear hf0 hf1 F0 F1 P0 P1 hs2 hs3 hl2 hl3 hw2 ho hM hr hS ht hc o8 heq w2 w3
  have h0 := HO3.out
  go_wp2_with ((with_reducible refine wp_load29 (o := ⟨some 58, .load 29 (.tmp 6), _, _, _, _⟩) ?_ (.tmp 6) ?_ (w.heap.size + 2) ?_ a2 l2 h0 ?_); (· rfl); (· rfl); (· rfl); simp only [Act.put, List.setIfInBounds_toArray, List.set_cons_zero, List.set_cons_succ])
  refine (RM.out _).mono ?_
  rintro e X4 ⟨rfl, hB⟩
  have HB4 := Lib.hid (below_trans HB3.out hB)
  have HU4 := Lib.hid (HU3.out.later hB)
  have HV4 := Lib.hid (HV3.out.later hB)
  have HO4 := Lib.hid (HO3.out.later hB)
  have HP4 := Lib.hid (HP3.out.later hB)
  have HM4 := Lib.hid (HM3.out.later hB)
  have HS4 := Lib.hid (HS3.out.later hB)
  have HT4 := Lib.hid (HT3.out.later hB)
  clear HB3 HU3 HV3 HO3 HP3 HM3 HS3 HT3
  clear hB h0 o1 o3 p1 p3 hD1 hD2 hD3 hD4 hE1 hE2 hE3 hE4 RM
  have h0 := HO4.out
  have h1 := HP4.out
  go_wp2_with (first | ((with_reducible refine wp_load29 (o := ⟨some 60, .load 29 (.tmp 6), _, _, _, _⟩) ?_ (.tmp 6) ?_ (w.heap.size + 2) ?_ a2 l2 h0 ?_); (· rfl); (· rfl); (· rfl); simp only [Act.put, List.setIfInBounds_toArray, List.set_cons_zero, List.set_cons_succ]) | ((with_reducible refine wp_load29 (o := ⟨some 61, .load 29 (.tmp 7), _, _, _, _⟩) ?_ (.tmp 7) ?_ (w.heap.size + 3) ?_ a3 l3 h1 ?_); (· rfl); (· rfl); (· rfl); simp only [Act.put, List.setIfInBounds_toArray, List.set_cons_zero, List.set_cons_succ]))
  refine (RS.out _).mono ?_
  rintro e X5 ⟨rfl, hB⟩
  have HB5 := Lib.hid (below_trans HB4.out hB)
  have HU5 := Lib.hid (HU4.out.later hB)
  have HV5 := Lib.hid (HV4.out.later hB)
  have HO5 := Lib.hid (HO4.out.later hB)
  have HP5 := Lib.hid (HP4.out.later hB)
  have HM5 := Lib.hid (HM4.out.later hB)
  have HS5 := Lib.hid (HS4.out.later hB)
  have HT5 := Lib.hid (HT4.out.later hB)
  clear HB4 HU4 HV4 HO4 HP4 HM4 HS4 HT4
  clear hB h0 h1 RS
  have h0 := HU5.out
  go_wp2_with ((with_reducible refine wp_load27 (o := ⟨some 63, .load 27 (.tmp 4), _, _, _, _⟩) ?_ (.tmp 4) ?_ w.heap.size ?_ a0 v0 l0 h0 ?_); (· rfl); (· rfl); (· rfl); simp only [Act.put, List.setIfInBounds_toArray, List.set_cons_zero, List.set_cons_succ])
  refine (RT.out _ HS5.out).mono ?_
  rintro e X6 ⟨rfl, hB⟩
  have HB6 := Lib.hid (below_trans HB5.out hB)
  have HU6 := Lib.hid (HU5.out.later hB)
  have HV6 := Lib.hid (HV5.out.later hB)
  have HO6 := Lib.hid (HO5.out.later hB)
  have HP6 := Lib.hid (HP5.out.later hB)
  have HM6 := Lib.hid (HM5.out.later hB)
  have HS6 := Lib.hid (HS5.out.later hB)
  have HT6 := Lib.hid (HT5.out.later hB)
  clear HB5 HU5 HV5 HO5 HP5 HM5 HS5 HT5
  clear hB h0 RT
  have h0 := HU6.out
  have h1 := HV6.out
  go_wp2_with (first | ((with_reducible refine wp_load27 (o := ⟨some 65, .load 27 (.tmp 4), _, _, _, _⟩) ?_ (.tmp 4) ?_ w.heap.size ?_ a0 v0 l0 h0 ?_); (· rfl); (· rfl); (· rfl); simp only [Act.put, List.setIfInBounds_toArray, List.set_cons_zero, List.set_cons_succ]) | ((with_reducible refine wp_load27 (o := ⟨some 66, .load 27 (.tmp 5), _, _, _, _⟩) ?_ (.tmp 5) ?_ (w.heap.size + 1) ?_ a1 v1 l1 h1 ?_); (· rfl); (· rfl); (· rfl); simp only [Act.put, List.setIfInBounds_toArray, List.set_cons_zero, List.set_cons_succ]))
  refine (RB.out _ HS6.out HT6.out).mono ?_
  rintro e X7 ⟨rfl, hB⟩
  have HB7 := Lib.hid (below_trans HB6.out hB)
  have HU7 := Lib.hid (HU6.out.later hB)
  have HV7 := Lib.hid (HV6.out.later hB)
  have HO7 := Lib.hid (HO6.out.later hB)
  have HP7 := Lib.hid (HP6.out.later hB)
  have HM7 := Lib.hid (HM6.out.later hB)
  have HS7 := Lib.hid (HS6.out.later hB)
  have HT7 := Lib.hid (HT6.out.later hB)
  clear HB6 HU6 HV6 HO6 HP6 HM6 HS6 HT6
  clear hB h0 h1 RB
  go_wp2_with fail
  have hc : Below X7.heap.size X7 X7.drew := (Below.refl _ _).drew
  refine wp_region_held_drew (S := fun v => UrlAt v w.heap.size a0 v0 ∧ UrlAt v (w.heap.size + 1) a1 v1 ∧ OAt v (w.heap.size + 2) a2 ∧ OAt v (w.heap.size + 3) a3) (by kernel_rfl) ⟨HU7.out.later hc, HV7.out.later hc, HO7.out.later hc, HP7.out.later hc⟩ (fun hS => ?_)
  refine wpAnyH_take (i := 0) (oi := ⟨some 68, .load 27 (.tmp 4), _, _, _, _⟩) (v := .agg (cU a0 v0)) rfl (by kernel_rfl) (by kernel_rfl) (by kernel_rfl) (fun _ _ _ h => h) (Or.inl ⟨by rfl, ?_⟩) (by assumption) ?_
  · (exact fun v hv => run_load_of 27 (.tmp 4) ⟨w.heap.size, 0, none⟩ rfl (.agg (cU a0 v0)) (hv.1.load l0))
  simp only [Act.put, List.setIfInBounds_toArray, List.set_cons_zero, List.set_cons_succ]
  refine wpAnyH_take (i := 2) (oi := ⟨some 70, .load 27 (.tmp 4), _, _, _, _⟩) (v := .agg (cU a0 v0)) rfl (by kernel_rfl) (by kernel_rfl) (by kernel_rfl) (fun _ _ _ h => h) (Or.inl ⟨by rfl, ?_⟩) (by assumption) ?_
  · (exact fun v hv => run_load_of 27 (.tmp 4) ⟨w.heap.size, 0, none⟩ rfl (.agg (cU a0 v0)) (hv.1.load l0))
  simp only [Act.put, List.setIfInBounds_toArray, List.set_cons_zero, List.set_cons_succ]
  refine wpAnyH_ready (rs := [1]) (by kernel_rfl) (by simp) ?_
  refine AllReadyH.cons (o := ⟨some 69, .call ⟨.value (.func 15), #[.tmp 68], _⟩, _, _, _, _⟩) rfl (fun K hK => ?_) AllReadyH.nil
  go_simp
  go_at_call 15
  refine (CO.out _ (HM7.out.later hc) (HS7.out.later hc)).mono ?_
  rintro e x ⟨rfl, hB⟩
  have hc := below_trans hc hB
  refine hK.out _ _ ⟨HU7.out.later hc, HV7.out.later hc, HO7.out.later hc, HP7.out.later hc⟩ (fun hS => ?_)
  clear hB
  refine wpAnyH_ready (rs := [3]) (by kernel_rfl) (by simp) ?_
  refine AllReadyH.cons (o := ⟨some 71, .call ⟨.value (.func 16), #[.tmp 70], _⟩, _, _, _, _⟩) rfl (fun K hK => ?_) AllReadyH.nil
  go_simp
  go_at_call 16
  refine (RO.out _ (HS7.out.later hc)).mono ?_
  rintro e x ⟨rfl, hB⟩
  have hc := below_trans hc hB
  refine hK.out _ _ ⟨HU7.out.later hc, HV7.out.later hc, HO7.out.later hc, HP7.out.later hc⟩ (fun hS => ?_)
  clear hB
  refine wpAnyH_take (i := 4) (oi := ⟨some 72, .binOp .eql 29 (.tmp 69) (.tmp 71) 29, _, _, _, _⟩) (v := .bool true) rfl (by kernel_rfl) (by kernel_rfl) (by kernel_rfl) (fun _ _ _ h => h) (Or.inl ⟨by rfl, ?_⟩) (by assumption) ?_
  · (intro v hv; have he := HEQ.out; go_simp)
  simp only [Act.put, List.setIfInBounds_toArray, List.set_cons_zero, List.set_cons_succ]
  refine wpAnyH_take (i := 5) (oi := ⟨some 73, .move (.tmp 72), _, _, _, _⟩) (v := .bool true) rfl (by kernel_rfl) (by kernel_rfl) (by kernel_rfl) (fun _ _ _ h => h) (Or.inl ⟨by rfl, ?_⟩) (by assumption) ?_
  · (intro v hv; go_simp)
  simp only [Act.put, List.setIfInBounds_toArray, List.set_cons_zero, List.set_cons_succ]
  refine wpAnyH_take (i := 6) (oi := ⟨some 74, .load 29 (.tmp 6), _, _, _, _⟩) (v := .agg (cO a2)) rfl (by kernel_rfl) (by kernel_rfl) (by kernel_rfl) (fun _ _ _ h => h) (Or.inl ⟨by rfl, ?_⟩) (by assumption) ?_
  · (exact fun v hv => run_load_of 29 (.tmp 6) ⟨(w.heap.size + 2), 0, none⟩ rfl (.agg (cO a2)) (hv.2.2.1.load l2))
  simp only [Act.put, List.setIfInBounds_toArray, List.set_cons_zero, List.set_cons_succ]
  refine wpAnyH_take (i := 8) (oi := ⟨some 76, .move (.tmp 12), _, _, _, _⟩) (v := .bool M) rfl (by kernel_rfl) (by kernel_rfl) (by kernel_rfl) (fun _ _ _ h => h) (Or.inl ⟨by rfl, ?_⟩) (by assumption) ?_
  · (intro v hv; go_simp)
  simp only [Act.put, List.setIfInBounds_toArray, List.set_cons_zero, List.set_cons_succ]
  refine wpAnyH_ready (rs := [7]) (by kernel_rfl) (by simp) ?_
  refine AllReadyH.cons (o := ⟨some 75, .call ⟨.value (.func 17), #[.tmp 74], _⟩, _, _, _, _⟩) rfl (fun K hK => ?_) AllReadyH.nil
  go_simp
  go_at_call 17
  refine (CM.out _ (HM7.out.later hc)).mono ?_
  rintro e x ⟨rfl, hB⟩
  have hc := below_trans hc hB
  refine hK.out _ _ ⟨HU7.out.later hc, HV7.out.later hc, HO7.out.later hc, HP7.out.later hc⟩ (fun hS => ?_)
  clear hB
  refine wpAnyH_take (i := 9) (oi := ⟨some 77, .binOp .eql 4 (.tmp 75) (.tmp 76) 4, _, _, _, _⟩) (v := .bool true) rfl (by kernel_rfl) (by kernel_rfl) (by kernel_rfl) (fun _ _ _ h => h) (Or.inl ⟨by rfl, ?_⟩) (by assumption) ?_
  · (intro v hv; go_simp)
  simp only [Act.put, List.setIfInBounds_toArray, List.set_cons_zero, List.set_cons_succ]
  refine wpAnyH_take (i := 10) (oi := ⟨some 78, .pick (.tmp 73) (.tmp 77) (.const (.bool false)), _, _, _, _⟩) (v := .bool true) rfl (by kernel_rfl) (by kernel_rfl) (by kernel_rfl) (fun _ _ _ h => h) (Or.inl ⟨by rfl, ?_⟩) (by assumption) ?_
  · (intro v hv; go_simp)
  simp only [Act.put, List.setIfInBounds_toArray, List.set_cons_zero, List.set_cons_succ]
  refine wpAnyH_take (i := 11) (oi := ⟨some 79, .move (.tmp 78), _, _, _, _⟩) (v := .bool true) rfl (by kernel_rfl) (by kernel_rfl) (by kernel_rfl) (fun _ _ _ h => h) (Or.inl ⟨by rfl, ?_⟩) (by assumption) ?_
  · (intro v hv; go_simp)
  simp only [Act.put, List.setIfInBounds_toArray, List.set_cons_zero, List.set_cons_succ]
  refine wpAnyH_take (i := 12) (oi := ⟨some 80, .load 29 (.tmp 6), _, _, _, _⟩) (v := .agg (cO a2)) rfl (by kernel_rfl) (by kernel_rfl) (by kernel_rfl) (fun _ _ _ h => h) (Or.inl ⟨by rfl, ?_⟩) (by assumption) ?_
  · (exact fun v hv => run_load_of 29 (.tmp 6) ⟨(w.heap.size + 2), 0, none⟩ rfl (.agg (cO a2)) (hv.2.2.1.load l2))
  simp only [Act.put, List.setIfInBounds_toArray, List.set_cons_zero, List.set_cons_succ]
  refine wpAnyH_take (i := 13) (oi := ⟨some 81, .load 29 (.tmp 7), _, _, _, _⟩) (v := .agg (cO a3)) rfl (by kernel_rfl) (by kernel_rfl) (by kernel_rfl) (fun _ _ _ h => h) (Or.inl ⟨by rfl, ?_⟩) (by assumption) ?_
  · (exact fun v hv => run_load_of 29 (.tmp 7) ⟨(w.heap.size + 3), 0, none⟩ rfl (.agg (cO a3)) (hv.2.2.2.load l3))
  simp only [Act.put, List.setIfInBounds_toArray, List.set_cons_zero, List.set_cons_succ]
  refine wpAnyH_take (i := 15) (oi := ⟨some 83, .move (.tmp 13), _, _, _, _⟩) (v := .bool r) rfl (by kernel_rfl) (by kernel_rfl) (by kernel_rfl) (fun _ _ _ h => h) (Or.inl ⟨by rfl, ?_⟩) (by assumption) ?_
  · (intro v hv; go_simp)
  simp only [Act.put, List.setIfInBounds_toArray, List.set_cons_zero, List.set_cons_succ]
  refine wpAnyH_ready (rs := [14]) (by kernel_rfl) (by simp) ?_
  refine AllReadyH.cons (o := ⟨some 82, .call ⟨.value (.func 18), #[.tmp 80, .tmp 81], _⟩, _, _, _, _⟩) rfl (fun K hK => ?_) AllReadyH.nil
  go_simp
  go_at_call 18
  refine (CS.out _ (HM7.out.later hc)).mono ?_
  rintro e x ⟨rfl, hB⟩
  have hc := below_trans hc hB
  refine hK.out _ _ ⟨HU7.out.later hc, HV7.out.later hc, HO7.out.later hc, HP7.out.later hc⟩ (fun hS => ?_)
  clear hB
  refine wpAnyH_take (i := 16) (oi := ⟨some 84, .binOp .eql 4 (.tmp 82) (.tmp 83) 4, _, _, _, _⟩) (v := .bool true) rfl (by kernel_rfl) (by kernel_rfl) (by kernel_rfl) (fun _ _ _ h => h) (Or.inl ⟨by rfl, ?_⟩) (by assumption) ?_
  · (intro v hv; go_simp)
  simp only [Act.put, List.setIfInBounds_toArray, List.set_cons_zero, List.set_cons_succ]
  refine wpAnyH_take (i := 17) (oi := ⟨some 85, .pick (.tmp 79) (.tmp 84) (.const (.bool false)), _, _, _, _⟩) (v := .bool true) rfl (by kernel_rfl) (by kernel_rfl) (by kernel_rfl) (fun _ _ _ h => h) (Or.inl ⟨by rfl, ?_⟩) (by assumption) ?_
  · (intro v hv; go_simp)
  simp only [Act.put, List.setIfInBounds_toArray, List.set_cons_zero, List.set_cons_succ]
  refine wpAnyH_take (i := 18) (oi := ⟨some 86, .move (.tmp 85), _, _, _, _⟩) (v := .bool true) rfl (by kernel_rfl) (by kernel_rfl) (by kernel_rfl) (fun _ _ _ h => h) (Or.inl ⟨by rfl, ?_⟩) (by assumption) ?_
  · (intro v hv; go_simp)
  simp only [Act.put, List.setIfInBounds_toArray, List.set_cons_zero, List.set_cons_succ]
  refine wpAnyH_take (i := 19) (oi := ⟨some 87, .load 29 (.tmp 6), _, _, _, _⟩) (v := .agg (cO a2)) rfl (by kernel_rfl) (by kernel_rfl) (by kernel_rfl) (fun _ _ _ h => h) (Or.inl ⟨by rfl, ?_⟩) (by assumption) ?_
  · (exact fun v hv => run_load_of 29 (.tmp 6) ⟨(w.heap.size + 2), 0, none⟩ rfl (.agg (cO a2)) (hv.2.2.1.load l2))
  simp only [Act.put, List.setIfInBounds_toArray, List.set_cons_zero, List.set_cons_succ]
  refine wpAnyH_take (i := 21) (oi := ⟨some 89, .load 29 (.tmp 6), _, _, _, _⟩) (v := .agg (cO a2)) rfl (by kernel_rfl) (by kernel_rfl) (by kernel_rfl) (fun _ _ _ h => h) (Or.inl ⟨by rfl, ?_⟩) (by assumption) ?_
  · (exact fun v hv => run_load_of 29 (.tmp 6) ⟨(w.heap.size + 2), 0, none⟩ rfl (.agg (cO a2)) (hv.2.2.1.load l2))
  simp only [Act.put, List.setIfInBounds_toArray, List.set_cons_zero, List.set_cons_succ]
  refine wpAnyH_ready (rs := [20]) (by kernel_rfl) (by simp) ?_
  refine AllReadyH.cons (o := ⟨some 88, .call ⟨.value (.func 19), #[.tmp 87], _⟩, _, _, _, _⟩) rfl (fun K hK => ?_) AllReadyH.nil
  go_simp
  go_at_call 19
  refine (CW.out _ (HM7.out.later hc)).mono ?_
  rintro e x ⟨rfl, hB⟩
  have hc := below_trans hc hB
  refine hK.out _ _ ⟨HU7.out.later hc, HV7.out.later hc, HO7.out.later hc, HP7.out.later hc⟩ (fun hS => ?_)
  clear hB
  refine wpAnyH_ready (rs := [22]) (by kernel_rfl) (by simp) ?_
  refine AllReadyH.cons (o := ⟨some 90, .call ⟨.value (.func 20), #[.tmp 89], _⟩, _, _, _, _⟩) rfl (fun K hK => ?_) AllReadyH.nil
  go_simp
  go_at_call 20
  refine (RW.out _).mono ?_
  rintro e x ⟨rfl, hB⟩
  have hc := below_trans hc hB
  refine hK.out _ _ ⟨HU7.out.later hc, HV7.out.later hc, HO7.out.later hc, HP7.out.later hc⟩ (fun hS => ?_)
  clear hB
  refine wpAnyH_take (i := 23) (oi := ⟨some 91, .binOp .eql 9 (.tmp 88) (.tmp 90) 9, _, _, _, _⟩) (v := .bool true) rfl (by kernel_rfl) (by kernel_rfl) (by kernel_rfl) (fun _ _ _ h => h) (Or.inl ⟨by rfl, ?_⟩) (by assumption) ?_
  · (intro v hv; go_simp)
  simp only [Act.put, List.setIfInBounds_toArray, List.set_cons_zero, List.set_cons_succ]
  refine wpAnyH_take (i := 24) (oi := ⟨some 92, .pick (.tmp 86) (.tmp 91) (.const (.bool false)), _, _, _, _⟩) (v := .bool true) rfl (by kernel_rfl) (by kernel_rfl) (by kernel_rfl) (fun _ _ _ h => h) (Or.inl ⟨by rfl, ?_⟩) (by assumption) ?_
  · (intro v hv; go_simp)
  simp only [Act.put, List.setIfInBounds_toArray, List.set_cons_zero, List.set_cons_succ]
  refine wpAnyH_take (i := 25) (oi := ⟨some 93, .move (.tmp 92), _, _, _, _⟩) (v := .bool true) rfl (by kernel_rfl) (by kernel_rfl) (by kernel_rfl) (fun _ _ _ h => h) (Or.inl ⟨by rfl, ?_⟩) (by assumption) ?_
  · (intro v hv; go_simp)
  simp only [Act.put, List.setIfInBounds_toArray, List.set_cons_zero, List.set_cons_succ]
  refine wpAnyH_take (i := 26) (oi := ⟨some 94, .load 27 (.tmp 4), _, _, _, _⟩) (v := .agg (cU a0 v0)) rfl (by kernel_rfl) (by kernel_rfl) (by kernel_rfl) (fun _ _ _ h => h) (Or.inl ⟨by rfl, ?_⟩) (by assumption) ?_
  · (exact fun v hv => run_load_of 27 (.tmp 4) ⟨w.heap.size, 0, none⟩ rfl (.agg (cU a0 v0)) (hv.1.load l0))
  simp only [Act.put, List.setIfInBounds_toArray, List.set_cons_zero, List.set_cons_succ]
  refine wpAnyH_take (i := 28) (oi := ⟨some 96, .move (.tmp 14), _, _, _, _⟩) (v := .bool t) rfl (by kernel_rfl) (by kernel_rfl) (by kernel_rfl) (fun _ _ _ h => h) (Or.inl ⟨by rfl, ?_⟩) (by assumption) ?_
  · (intro v hv; go_simp)
  simp only [Act.put, List.setIfInBounds_toArray, List.set_cons_zero, List.set_cons_succ]
  refine wpAnyH_ready (rs := [27]) (by kernel_rfl) (by simp) ?_
  refine AllReadyH.cons (o := ⟨some 95, .call ⟨.value (.func 21), #[.tmp 94], _⟩, _, _, _, _⟩) rfl (fun K hK => ?_) AllReadyH.nil
  go_simp
  go_at_call 21
  refine (CT.out _ (HM7.out.later hc) (HS7.out.later hc)).mono ?_
  rintro e x ⟨rfl, hB⟩
  have hc := below_trans hc hB
  refine hK.out _ _ ⟨HU7.out.later hc, HV7.out.later hc, HO7.out.later hc, HP7.out.later hc⟩ (fun hS => ?_)
  clear hB
  refine wpAnyH_take (i := 29) (oi := ⟨some 97, .binOp .eql 4 (.tmp 95) (.tmp 96) 4, _, _, _, _⟩) (v := .bool true) rfl (by kernel_rfl) (by kernel_rfl) (by kernel_rfl) (fun _ _ _ h => h) (Or.inl ⟨by rfl, ?_⟩) (by assumption) ?_
  · (intro v hv; go_simp)
  simp only [Act.put, List.setIfInBounds_toArray, List.set_cons_zero, List.set_cons_succ]
  refine wpAnyH_take (i := 30) (oi := ⟨some 98, .pick (.tmp 93) (.tmp 97) (.const (.bool false)), _, _, _, _⟩) (v := .bool true) rfl (by kernel_rfl) (by kernel_rfl) (by kernel_rfl) (fun _ _ _ h => h) (Or.inl ⟨by rfl, ?_⟩) (by assumption) ?_
  · (intro v hv; go_simp)
  simp only [Act.put, List.setIfInBounds_toArray, List.set_cons_zero, List.set_cons_succ]
  refine wpAnyH_take (i := 31) (oi := ⟨some 99, .move (.tmp 98), _, _, _, _⟩) (v := .bool true) rfl (by kernel_rfl) (by kernel_rfl) (by kernel_rfl) (fun _ _ _ h => h) (Or.inl ⟨by rfl, ?_⟩) (by assumption) ?_
  · (intro v hv; go_simp)
  simp only [Act.put, List.setIfInBounds_toArray, List.set_cons_zero, List.set_cons_succ]
  refine wpAnyH_take (i := 32) (oi := ⟨some 100, .load 27 (.tmp 4), _, _, _, _⟩) (v := .agg (cU a0 v0)) rfl (by kernel_rfl) (by kernel_rfl) (by kernel_rfl) (fun _ _ _ h => h) (Or.inl ⟨by rfl, ?_⟩) (by assumption) ?_
  · (exact fun v hv => run_load_of 27 (.tmp 4) ⟨w.heap.size, 0, none⟩ rfl (.agg (cU a0 v0)) (hv.1.load l0))
  simp only [Act.put, List.setIfInBounds_toArray, List.set_cons_zero, List.set_cons_succ]
  refine wpAnyH_take (i := 33) (oi := ⟨some 101, .load 27 (.tmp 5), _, _, _, _⟩) (v := .agg (cU a1 v1)) rfl (by kernel_rfl) (by kernel_rfl) (by kernel_rfl) (fun _ _ _ h => h) (Or.inl ⟨by rfl, ?_⟩) (by assumption) ?_
  · (exact fun v hv => run_load_of 27 (.tmp 5) ⟨(w.heap.size + 1), 0, none⟩ rfl (.agg (cU a1 v1)) (hv.2.1.load l1))
  simp only [Act.put, List.setIfInBounds_toArray, List.set_cons_zero, List.set_cons_succ]
  refine wpAnyH_take (i := 35) (oi := ⟨some 103, .move (.tmp 15), _, _, _, _⟩) (v := .bool c) rfl (by kernel_rfl) (by kernel_rfl) (by kernel_rfl) (fun _ _ _ h => h) (Or.inl ⟨by rfl, ?_⟩) (by assumption) ?_
  · (intro v hv; go_simp)
  simp only [Act.put, List.setIfInBounds_toArray, List.set_cons_zero, List.set_cons_succ]
  refine wpAnyH_ready (rs := [34]) (by kernel_rfl) (by simp) ?_
  refine AllReadyH.cons (o := ⟨some 102, .call ⟨.value (.func 22), #[.tmp 100, .tmp 101], _⟩, _, _, _, _⟩) rfl (fun K hK => ?_) AllReadyH.nil
  go_simp
  go_at_call 22
  refine (CB.out _ (HM7.out.later hc) (HS7.out.later hc) (HT7.out.later hc)).mono ?_
  rintro e x ⟨rfl, hB⟩
  have hc := below_trans hc hB
  refine hK.out _ _ ⟨HU7.out.later hc, HV7.out.later hc, HO7.out.later hc, HP7.out.later hc⟩ (fun hS => ?_)
  clear hB
  refine wpAnyH_take (i := 36) (oi := ⟨some 104, .binOp .eql 4 (.tmp 102) (.tmp 103) 4, _, _, _, _⟩) (v := .bool true) rfl (by kernel_rfl) (by kernel_rfl) (by kernel_rfl) (fun _ _ _ h => h) (Or.inl ⟨by rfl, ?_⟩) (by assumption) ?_
  · (intro v hv; go_simp)
  simp only [Act.put, List.setIfInBounds_toArray, List.set_cons_zero, List.set_cons_succ]
  refine wpAnyH_take (i := 37) (oi := ⟨some 105, .pick (.tmp 99) (.tmp 104) (.const (.bool false)), _, _, _, _⟩) (v := .bool true) rfl (by kernel_rfl) (by kernel_rfl) (by kernel_rfl) (fun _ _ _ h => h) (Or.inl ⟨by rfl, ?_⟩) (by assumption) ?_
  · (intro v hv; go_simp)
  simp only [Act.put, List.setIfInBounds_toArray, List.set_cons_zero, List.set_cons_succ]
  refine wpAnyH_take (i := 38) (oi := ⟨some 8, .assign (.tmp 105), _, _, _, _⟩) (v := .bool true) rfl (by kernel_rfl) (by kernel_rfl) (by kernel_rfl) (fun _ _ _ h => h) (Or.inl ⟨by rfl, ?_⟩) (by assumption) ?_
  · (intro v hv; go_simp)
  simp only [Act.put, List.setIfInBounds_toArray, List.set_cons_zero, List.set_cons_succ]
  refine wpAnyH_done (by kernel_rfl) ?_ _
  go_wp2
  go_ret
  exact ⟨rfl, HX.out.trans ((below_trans HB7.out hc).mono HX.out.size)⟩

/-! ### The row's step -/
theorem reads (os : Os) {H : Type} (enc : TypeId × Value → H) : (DataW.whole enc Tryz.prog ((Card.laidWorld os).forCall (fun _ _ => 0) ⟨#[], #[.agg #[.string ByteArray.empty, .string ByteArray.empty, .string ByteArray.empty, .int .i64 0, .string ByteArray.empty, .int .i64 0, .int .i64 0, .int .i64 0, .int .i64 0, .int .i64 0, .int .i64 0, .int .i64 0, .int .i64 0, .int .i64 0, .int .i64 0, .slice none 0 0, .string ByteArray.empty, .string ByteArray.empty, .string ByteArray.empty, .bool false, .bool false], .agg #[.string ByteArray.empty, .string ByteArray.empty, .string ByteArray.empty, .int .i64 0, .string ByteArray.empty, .int .i64 0, .int .i64 0, .int .i64 0, .int .i64 0, .int .i64 0, .int .i64 0, .int .i64 0, .int .i64 0, .int .i64 0, .int .i64 0, .slice none 0 0, .string ByteArray.empty, .string ByteArray.empty, .string ByteArray.empty, .bool false, .bool false], .agg #[.bool false, .string ByteArray.empty, .int .i64 0, .string ByteArray.empty, .int .i64 0, .int .i64 0, .int .i64 0, .int .i64 0, .int .i64 0, .int .i64 0, .int .i64 0, .int .i64 0, .int .i64 0, .int .i64 0], .agg #[.bool false, .string ByteArray.empty, .int .i64 0, .string ByteArray.empty, .int .i64 0, .int .i64 0, .int .i64 0, .int .i64 0, .int .i64 0, .int .i64 0, .int .i64 0, .int .i64 0, .int .i64 0, .int .i64 0]], []⟩).memory Tryz.f3.params.toList Rows.originTellsSpec.vars false (#[.agg #[.string ByteArray.empty, .string ByteArray.empty, .string ByteArray.empty, .int .i64 0, .string ByteArray.empty, .int .i64 0, .int .i64 0, .int .i64 0, .int .i64 0, .int .i64 0, .int .i64 0, .int .i64 0, .int .i64 0, .int .i64 0, .int .i64 0, .slice none 0 0, .string ByteArray.empty, .string ByteArray.empty, .string ByteArray.empty, .bool false, .bool false], .agg #[.string ByteArray.empty, .string ByteArray.empty, .string ByteArray.empty, .int .i64 0, .string ByteArray.empty, .int .i64 0, .int .i64 0, .int .i64 0, .int .i64 0, .int .i64 0, .int .i64 0, .int .i64 0, .int .i64 0, .int .i64 0, .int .i64 0, .slice none 0 0, .string ByteArray.empty, .string ByteArray.empty, .string ByteArray.empty, .bool false, .bool false], .agg #[.bool false, .string ByteArray.empty, .int .i64 0, .string ByteArray.empty, .int .i64 0, .int .i64 0, .int .i64 0, .int .i64 0, .int .i64 0, .int .i64 0, .int .i64 0, .int .i64 0, .int .i64 0, .int .i64 0], .agg #[.bool false, .string ByteArray.empty, .int .i64 0, .string ByteArray.empty, .int .i64 0, .int .i64 0, .int .i64 0, .int .i64 0, .int .i64 0, .int .i64 0, .int .i64 0, .int .i64 0, .int .i64 0, .int .i64 0]] : Array Value).toList 8).map (fun x => (x.1, x.2.1)) = some ([.agg [.lit (.string []), .lit (.string []), .lit (.string []), .agg [.lit (.int .i64 0), .lit (.string []), .lit (.int .i64 0), .agg [.lit (.int .i64 0), .lit (.int .i64 0), .lit (.int .i64 0), .lit (.int .i64 0), .lit (.int .i64 0), .lit (.int .i64 0), .lit (.int .i64 0), .lit (.int .i64 0)]], .lit (.int .i64 0), .nil, .lit (.string []), .lit (.string []), .lit (.string []), .lit (.bool false), .lit (.bool false)], .agg [.lit (.string []), .lit (.string []), .lit (.string []), .agg [.lit (.int .i64 0), .lit (.string []), .lit (.int .i64 0), .agg [.lit (.int .i64 0), .lit (.int .i64 0), .lit (.int .i64 0), .lit (.int .i64 0), .lit (.int .i64 0), .lit (.int .i64 0), .lit (.int .i64 0), .lit (.int .i64 0)]], .lit (.int .i64 0), .nil, .lit (.string []), .lit (.string []), .lit (.string []), .lit (.bool false), .lit (.bool false)], .agg [.lit (.bool false), .lit (.string []), .agg [.lit (.int .i64 0), .lit (.string []), .lit (.int .i64 0), .agg [.lit (.int .i64 0), .lit (.int .i64 0), .lit (.int .i64 0), .lit (.int .i64 0), .lit (.int .i64 0), .lit (.int .i64 0), .lit (.int .i64 0), .lit (.int .i64 0)]], .lit (.int .i64 0)], .agg [.lit (.bool false), .lit (.string []), .agg [.lit (.int .i64 0), .lit (.string []), .lit (.int .i64 0), .agg [.lit (.int .i64 0), .lit (.int .i64 0), .lit (.int .i64 0), .lit (.int .i64 0), .lit (.int .i64 0), .lit (.int .i64 0), .lit (.int .i64 0), .lit (.int .i64 0)]], .lit (.int .i64 0)]], []) := by kernel_rfl
set_option maxRecDepth 100000 in
theorem lifted (os : Os) (started : os.Started) (H : Type) (enc : TypeId × Value → H) (F : Stop.Interp) :
    ReturnsInHanded {} Tryz.checked os 3 .any ((OpenSpec.ofChange Rows.originTellsSpec).preRow enc Tryz.prog Tryz.f3 Rows.originTellsRow.domain false Rows.originTellsRow.laid) (((OpenSpec.ofChange Rows.originTellsSpec).at F).post enc Tryz.prog Tryz.f3 false true false false) := by
  obtain ⟨⟨x1, x2, x3⟩, hx, hx1⟩ := Option.map_eq_some_iff.1 (reads os enc)
  simp only [Prod.mk.injEq] at hx1
  obtain ⟨rfl, rfl⟩ := hx1
  refine returnsInHanded_of_row (C := Tryz.checked) (s := OpenSpec.ofChange Rows.originTellsSpec) own started (by kernel_rfl) Tryz.func3
    (witness_row_at (enc := enc) (C := Tryz.checked) false (Card.laidWorld os) #[.agg #[.string ByteArray.empty, .string ByteArray.empty, .string ByteArray.empty, .int .i64 0, .string ByteArray.empty, .int .i64 0, .int .i64 0, .int .i64 0, .int .i64 0, .int .i64 0, .int .i64 0, .int .i64 0, .int .i64 0, .int .i64 0, .int .i64 0, .slice none 0 0, .string ByteArray.empty, .string ByteArray.empty, .string ByteArray.empty, .bool false, .bool false], .agg #[.string ByteArray.empty, .string ByteArray.empty, .string ByteArray.empty, .int .i64 0, .string ByteArray.empty, .int .i64 0, .int .i64 0, .int .i64 0, .int .i64 0, .int .i64 0, .int .i64 0, .int .i64 0, .int .i64 0, .int .i64 0, .int .i64 0, .slice none 0 0, .string ByteArray.empty, .string ByteArray.empty, .string ByteArray.empty, .bool false, .bool false], .agg #[.bool false, .string ByteArray.empty, .int .i64 0, .string ByteArray.empty, .int .i64 0, .int .i64 0, .int .i64 0, .int .i64 0, .int .i64 0, .int .i64 0, .int .i64 0, .int .i64 0, .int .i64 0, .int .i64 0], .agg #[.bool false, .string ByteArray.empty, .int .i64 0, .string ByteArray.empty, .int .i64 0, .int .i64 0, .int .i64 0, .int .i64 0, .int .i64 0, .int .i64 0, .int .i64 0, .int .i64 0, .int .i64 0, .int .i64 0]] rfl (by kernel_rfl) (by kernel_rfl) (by kernel_rfl)
      (OpenSpec.preRow_of_cond 8 hx (by kernel_rfl) (fun k hk => by cases hk) (by kernel_rfl) (Card.laid_met os _))) ?_
  intro W base args ds gs before hval0 hW _ _ _ hL hsh _
  obtain ⟨m, hmax⟩ := Card.maxLen_int hsh
  have hm : Six.At m W := ⟨hmax, Six.tab_of hL⟩
  have hval : ∀ (j : Nat) t v, Tryz.f3.params[j]? = some t → args[j]? = some v → Value.okWide Tryz.prog W .any base t v := hval0
  have hW' := hW
  obtain ⟨p, q, hA0, hV, rfl, hfz, hnd⟩ := hW
  have hA : DataW.TrodAll enc Tryz.prog W 0 (fun _ => true) true Tryz.f3.params.toList args.toList ds p := hA0
  rw [Tryz.params3] at hA hval
  obtain ⟨v0, vs0, d0, ds0, p0, q0, hargs0, rfl, rfl, t0, r0⟩ := trodAll_cons hA
  obtain ⟨v1, vs1, d1, ds1, p1, q1, hargs1, rfl, rfl, t1, r1⟩ := trodAll_cons r0
  obtain ⟨v2, vs2, d2, ds2, p2, q2, hargs2, rfl, rfl, t2, r2⟩ := trodAll_cons r1
  obtain ⟨v3, vs3, d3, ds3, p3, q3, hargs3, rfl, rfl, t3, r3⟩ := trodAll_cons r2
  obtain ⟨rfl, rfl, rfl⟩ := trodAll_nil r3
  obtain rfl : args = #[v0, v1, v2, v3] := by cases args; simp_all
  obtain ⟨rfl, rfl⟩ := trodVars_none hV
  have k0 := t0
  have lt0 : ∀ x ∈ p0, x.block < W.heap.size := by obtain ⟨m, hm⟩ := k0; exact DataW.trod_lt m _ _ _ hm
  obtain ⟨a0, pv0, l0, rfl, z0, w0⟩ := Url.open_url (hval 0 27 v0 rfl rfl) t0
  have k1 := t1
  have lt1 : ∀ x ∈ p1, x.block < W.heap.size := by obtain ⟨m, hm⟩ := k1; exact DataW.trod_lt m _ _ _ hm
  obtain ⟨a1, pv1, l1, rfl, z1, w1⟩ := Url.open_url (hval 1 27 v1 rfl rfl) t1
  have k2 := t2
  have lt2 : ∀ x ∈ p2, x.block < W.heap.size := by obtain ⟨m, hm⟩ := k2; exact DataW.trod_lt m _ _ _ hm
  obtain ⟨a2, l2, rfl, w2⟩ := Origin.open_origin (hval 2 29 v2 rfl rfl) t2
  have k3 := t3
  have lt3 : ∀ x ∈ p3, x.block < W.heap.size := by obtain ⟨m, hm⟩ := k3; exact DataW.trod_lt m _ _ _ hm
  obtain ⟨a3, l3, rfl, w3⟩ := Origin.open_origin (hval 3 29 v3 rfl rfl) t3
  clear hA0 hval0
  simp only [List.append_nil] at hW'
  refine (walk a0 pv0 l0 a1 pv1 l1 a2 l2 a3 l3 w2 w3 m W hm z0 w0 z1 w1).mono fun e W' ⟨he, bel⟩ => ?_
  subst he
  exact ⟨_, rfl, _, _, _, [], _, [], hW', trodAll_mk1 (shut_bool Tryz.underlying4 _), (trodAll_cons_mk (Below.trod laidOut (by kernel_rfl) (of_decide_eq_true (by kernel_rfl)) k0 bel lt0) (trodAll_cons_mk (Below.trod laidOut (by kernel_rfl) (of_decide_eq_true (by kernel_rfl)) k1 bel lt1) (trodAll_cons_mk (Below.trod laidOut (by kernel_rfl) (of_decide_eq_true (by kernel_rfl)) k2 bel lt2) (trodAll_cons_mk (Below.trod laidOut (by kernel_rfl) (of_decide_eq_true (by kernel_rfl)) k3 bel lt3) trodAll_mk0)))), rfl, bel.frame _, fun h => by cases h⟩

theorem said : Rows.originTellsRow.holds Tryz.pinned (OpenSpec.ofChange Rows.originTellsSpec) :=
  OpenClaim.holds_of_cond 3 Tryz.f3 rfl rfl rfl rfl rfl rfl rfl ⟨rfl, rfl, rfl, rfl, rfl⟩ rfl rfl rfl rfl rfl (by kernel_rfl) Tryz.func3 (by kernel_rfl)
    (of_decide_eq_true (by kernel_rfl)) (by unfold Func.isWrapper; first | (rw [if_pos (by decide +kernel)]; kernel_rfl) | (rw [if_neg (by decide +kernel)]; exact ⟨rfl, rfl⟩))
    (fun os started H enc _ F => by rw [OpenClaim.pre_eq_preRow]; exact lifted os started H enc F)

/-- No parameter wants a stand-in; the program's own looks are on. -/
theorem plain (f : FuncId) (fn : Func) (hf : Tryz.pinned.checked.prog.funcNamed Rows.originTellsRow.func = some f) (hfn : Tryz.pinned.checked.prog.funcs[f]? = some fn) :
    true = Tryz.pinned.checked.prog.looks [] ∧ ∀ (j : Nat) t, fn.params[j]? = some t → Tryz.pinned.checked.prog.wantsStandIn t = false := by
  obtain rfl : f = 3 := Option.some.inj ((show Tryz.prog.funcNamed Rows.originTellsRow.func = some 3 by kernel_rfl).symm.trans hf) |>.symm
  obtain rfl : fn = Tryz.f3 := (Option.some.inj (Tryz.func3.symm.trans hfn)).symm
  refine ⟨by kernel_rfl, fun j t ht => ?_⟩
  rw [Tryz.params3] at ht
  obtain rfl | rfl : t = 27 ∨ t = 29 := by simpa using Array.mem_of_getElem? ht
  · exact (show Tryz.prog.wantsStandIn 27 = false by kernel_rfl)
  · exact (show Tryz.prog.wantsStandIn 29 = false by kernel_rfl)

/-- The statement: the card. -/
theorem proved : Rows.OriginTellsCardSaid :=
  Claim7.holds_tied_plain_at .later [] _ _ _ _ said (fun _ h => by cases h) (by kernel_rfl) (fun _ h => by cases h) originTells_row_tie rfl ⟨rfl, rfl⟩ (by kernel_rfl) rfl plain (by kernel_rfl)
#print axioms proved
end Go.Proofs.YtkhgdcpkhbpemaaGreatDoor.originTells
