/-
  WHAT IS PROVED: the card of OriginShow: of any two addresses whose parts are few and short, the first of the web: what is shown as one has one origin; that text, as an address, has that origin; a user, a path, a query and a fragment do not matter.
  CONDITIONS: none but the card's own: the listed tables read as their texts lay them; the addresses are any.
-/
import Derived.Test.YtkhgdcpkhbpemaaGreatDoorCards
import Derived.Test.YtkhgdcpkhbpemaaGreatDoorTie
import Derived.WalkKit
import Derived.ProofKit
import Derived.OpenShut
import Derived.ShutString
import Derived.ChangeOld
import Derived.Below
import Derived.Deep.RegionHeld
import Derived.Laws.AppendOwnNone
import Derived.Test.YtkhgdcpkhbpemaaGreatDoorOAwake
import Derived.Test.YtkhgdcpkhbpemaaGreatDoorLaid
import Derived.Test.YtkhgdcpkhbpemaaGreatDoorHOpen
namespace Go.Proofs.YtkhgdcpkhbpemaaGreatDoor.originShow
open Go.ChangeShapes Go.WideShapes Go.ChangeAt Go.RowKit
open Go.ChangeMaps (open_string shut_string)
open Go.Shelf
open Go.Proofs.YtkhgdcpkhbpemaaGreatDoor.Url
open Go.Proofs.YtkhgdcpkhbpemaaGreatDoor.Host (H)
open Go.Proofs.YtkhgdcpkhbpemaaGreatDoor.Path (Strs)
set_option linter.unusedSimpArgs false
set_option linter.unusedVariables false

theorem own : ownKnob Tryz.prog.godebug = none := by kernel_rfl
theorem laidOut : laidOutB Tryz.prog = true := by kernel_rfl

open Go.Proofs.YtkhgdcpkhbpemaaGreatDoor.Show
open Go.Proofs.YtkhgdcpkhbpemaaGreatDoor.Origin
theorem few_sch {u : U} (h : fewU u = true) : u.sch.length ≤ 300 := by
  unfold fewU at h
  simp only [Bool.and_eq_true, le3_iff] at h
  exact h.2.1
set_option maxRecDepth 100000
set_option maxHeartbeats 16000000 in
theorem walk (a0 : U) (v0 : Value) (l0 : a0.h.p.length = 8) (a1 : U) (v1 : Value) (l1 : a1.h.p.length = 8) (m : Int) (w : World) (hm : Six.At m w) (s0 : Path.Strs w v0 a0.path) (w0 : (Lit.int .i64 a0.port).wf = true) (s1 : Path.Strs w v1 a1.path) (w1 : (Lit.int .i64 a1.port).wf = true) :
    Calls Tryz.prog 5 #[.agg (cU a0 v0), .agg (cU a1 v1)] w fun e w' => e = .returned (.bool true) ∧ Below w.heap.size w w' := by
  have e1 : (w.alloc (.cells (cU a0 v0) 27)).heap.size = w.heap.size + 1 := Array.size_push _
  have b1 : Below w.heap.size w (w.alloc (.cells (cU a0 v0) 27)) := (Below.refl w.heap.size w).alloc (Nat.le_refl _) _
  have b2 : Below w.heap.size w ((w.alloc (.cells (cU a0 v0) 27)).alloc (.cells (cU a1 v1) 27)) := b1.alloc (by omega) _
  have HX := Lib.hid b2
  have HU0 := Lib.hid ((UrlAt.new w a0 v0).past (.cells (cU a1 v1) 27))
  have HV0 := Lib.hid (show UrlAt ((w.alloc (.cells (cU a0 v0) 27)).alloc (.cells (cU a1 v1) 27)) (w.heap.size + 1) a1 v1 from by rw [← e1]; exact UrlAt.new (w.alloc (.cells (cU a0 v0) 27)) a1 v1)
  have HM0 := Lib.hid (hm.later HX.out)
  have HS0 := Lib.hid (s0.later HX.out)
  have HT0 := Lib.hid (s1.later HX.out)
  clear hm e1 b1 b2 s0 s1
  go_enter Tryz.func5, Tryz.ntmps5
  go_wp2_with fail
  generalize ((w.alloc (.cells (cU a0 v0) 27)).alloc (.cells (cU a1 v1) 27)) = X0 at HX HM0 HU0 HV0 HS0 HT0 ⊢
  refine (Origin.awake_calls m X0 HM0.out).mono ?_
  rintro e X1 ⟨rfl, hB⟩
  have HB1 := Lib.hid (hB)
  have HU1 := Lib.hid (HU0.out.later hB)
  have HV1 := Lib.hid (HV0.out.later hB)
  have HM1 := Lib.hid (HM0.out.later hB)
  have HS1 := Lib.hid (HS0.out.later hB)
  have HT1 := Lib.hid (HT0.out.later hB)
  clear HU0 HV0 HM0 HS0 HT0
  clear hB
  obtain ⟨f0, hf0⟩ : ∃ b, fewU a0 = b := ⟨_, rfl⟩
  have hu := HU1.out
  go_wp2_with ((with_reducible refine wp_load27 (o := ⟨some 14, .load 27 (.tmp 2), _, _, _, _⟩) ?_ (.tmp 2) ?_ w.heap.size ?_ a0 v0 l0 hu ?_); (· rfl); (· rfl); (· rfl); simp only [Act.put, List.setIfInBounds_toArray, List.set_cons_zero, List.set_cons_succ])
  refine (few_any a0 v0 l0 f0 hf0 _ HS1.out).mono ?_
  rintro e X2 ⟨rfl, hB⟩
  have HB2 := Lib.hid (below_trans HB1.out hB)
  have HU2 := Lib.hid (HU1.out.later hB)
  have HV2 := Lib.hid (HV1.out.later hB)
  have HM2 := Lib.hid (HM1.out.later hB)
  have HS2 := Lib.hid (HS1.out.later hB)
  have HT2 := Lib.hid (HT1.out.later hB)
  clear HB1 HU1 HV1 HM1 HS1 HT1
  clear hB hu
  obtain ⟨f1, hf1⟩ : ∃ b, fewU a1 = b := ⟨_, rfl⟩
  have hu := HV2.out
  go_wp2_with ((with_reducible refine wp_load27 (o := ⟨some 16, .load 27 (.tmp 3), _, _, _, _⟩) ?_ (.tmp 3) ?_ (w.heap.size + 1) ?_ a1 v1 l1 hu ?_); (· rfl); (· rfl); (· rfl); simp only [Act.put, List.setIfInBounds_toArray, List.set_cons_zero, List.set_cons_succ])
  refine (few_any a1 v1 l1 f1 hf1 _ HT2.out).mono ?_
  rintro e X3 ⟨rfl, hB⟩
  have HB3 := Lib.hid (below_trans HB2.out hB)
  have HU3 := Lib.hid (HU2.out.later hB)
  have HV3 := Lib.hid (HV2.out.later hB)
  have HM3 := Lib.hid (HM2.out.later hB)
  have HS3 := Lib.hid (HS2.out.later hB)
  have HT3 := Lib.hid (HT2.out.later hB)
  clear HB2 HU2 HV2 HM2 HS2 HT2
  clear hB hu
  cases f0
  · go_wp2
    go_ret
    exact ⟨rfl, HX.out.trans (HB3.out.mono HX.out.size)⟩
  cases f1
  · go_wp2
    go_ret
    exact ⟨rfl, HX.out.trans (HB3.out.mono HX.out.size)⟩
  have F0 := few_fit a0 l0 hf0
  have F1 := few_fit a1 l1 hf1
  have hsc : a0.sch.length ≤ 300 := few_sch hf0
  have hsd : a1.sch.length ≤ 300 := few_sch hf1
  obtain ⟨b, hb⟩ : ∃ b, mayU a0 = b := ⟨_, rfl⟩
  obtain ⟨z, hz⟩ : ∃ z, webI a0.sch = z := ⟨_, rfl⟩
  obtain ⟨N, hN⟩ : ∃ n, tb a0.sch = n := ⟨_, rfl⟩
  obtain ⟨S, hS⟩ : ∃ n, tb (showO (ofU a0)) = n := ⟨_, rfl⟩
  obtain ⟨R, hR⟩ : ∃ n, tb (showO (ofU a1)) = n := ⟨_, rfl⟩
  obtain ⟨o, ho⟩ : ∃ o, ofU a0 = o := ⟨_, rfl⟩
  obtain ⟨p, hp⟩ : ∃ o, ofU a1 = o := ⟨_, rfl⟩
  obtain ⟨c, hc⟩ : ∃ b, bothU a0 a1 = b := ⟨_, rfl⟩
  obtain ⟨o8, os, ol⟩ := of_size a0 F0
  obtain ⟨p8, ps, pl⟩ := of_size a1 F1
  have hSs : S.size ≤ 600 := by rw [size_tb hS]; exact show_len a0 F0 hsc
  have CM := Lib.hid (fun y hm hs => Url.may_any a0 v0 F0 b hb m y hm hs)
  have CZ := Lib.hid (fun y => web_any N z (by rw [list_tb hN]; exact hz) y)
  have CO := Lib.hid (fun y hm hs => of_any a0 v0 F0 o ho m y hm hs)
  have CP := Lib.hid (fun y hm hs => of_any a1 v1 F1 p hp m y hm hs)
  have CB := Lib.hid (fun y hm hs ht => both_any a0 a1 v0 v1 F0 F1 c hc m y hm hs ht)
  have CN := Lib.hid (fun y hs => Show.open_any a0 v0 F0 y hs)
  rw [ho] at hS o8 os ol
  rw [hp] at hR p8 ps pl
  have CS := Lib.hid (fun y hm => oshow_any o o8 os ol S hS m y hm)
  have CR := Lib.hid (fun y hm => oshow_any p p8 ps pl R hR m y hm)
  have KK := Lib.hid (show b = true → z ≠ 0 → okU (showO o) = true ∧ parU (showO o) = adr o ∧ ofU (adr o) = o ∧ showU (adr o) = showO o ++ [47] ∧ (S.toList == R.toList) = c ∧ ofU { openU a0 with path := [otherT], qry := [], hq := false } = o from fun h k => by
    have h1 := hb.trans h
    have h2 : webI a0.sch ≠ 0 := fun e => k (hz.symm.trans e)
    have e := origin_back h1 h2 l0
    rw [ho] at e
    have e2 := of_plain h1 h2 [otherT] other_may
    rw [ho] at e2
    exact ⟨e.1, e.2.1, e.2.2.1, e.2.2.2, show_eq h1 h2 l0 a1 l1 S R (by rw [ho]; exact hS) (by rw [hp]; exact hR) c hc, e2⟩)
  have HSb := Lib.hid hS
  have HSs := Lib.hid hSs
  have HNN := Lib.hid hN
  have O8 := Lib.hid o8
  have P8 := Lib.hid p8
  have OS := Lib.hid os
  have OL := Lib.hid ol
  have HF0 := Lib.hid F0
  clear hf0 hf1 F0 F1 hsc hsd hb hz hN hS hR ho hp hc o8 os ol p8 ps pl hSs
  have hu := HU3.out
  go_wp2_with ((with_reducible refine wp_load27 (o := ⟨some 29, .load 27 (.tmp 2), _, _, _, _⟩) ?_ (.tmp 2) ?_ w.heap.size ?_ a0 v0 l0 hu ?_); (· rfl); (· rfl); (· rfl); simp only [Act.put, List.setIfInBounds_toArray, List.set_cons_zero, List.set_cons_succ])
  refine (CM.out _ HM3.out HS3.out).mono ?_
  rintro e X4 ⟨rfl, hB⟩
  have HB4 := Lib.hid (below_trans HB3.out hB)
  have HU4 := Lib.hid (HU3.out.later hB)
  have HV4 := Lib.hid (HV3.out.later hB)
  have HM4 := Lib.hid (HM3.out.later hB)
  have HS4 := Lib.hid (HS3.out.later hB)
  have HT4 := Lib.hid (HT3.out.later hB)
  clear HB3 HU3 HV3 HM3 HS3 HT3
  clear hB hu CM
  cases b
  · go_wp2
    go_ret
    exact ⟨rfl, HX.out.trans (HB4.out.mono HX.out.size)⟩
  have c0 := HU4.out.cell 0
  rw [(cU_at a0 v0 l0).1, HNN.out] at c0
  go_wp2_with fail
  refine (CZ.out _).mono ?_
  rintro e X ⟨rfl, rfl⟩
  clear CZ c0
  by_cases h0 : z = 0
  · subst h0
    go_wp2
    go_ret
    exact ⟨rfl, HX.out.trans (HB4.out.mono HX.out.size)⟩
  have q0 : (z == 0) = false := beq_eq_false_iff_ne.2 h0
  obtain ⟨k1, k2, k3, k4, k5, k6⟩ := KK.out (by first | rfl | trivial) h0
  have K1 := Lib.hid k1
  have K2 := Lib.hid k2
  have K3 := Lib.hid k3
  have K4 := Lib.hid k4
  have K5 := Lib.hid k5
  have K6 := Lib.hid k6
  clear KK k1 k2 k3 k4 k5 k6
  have hu := HU4.out
  go_wp2_with ((with_reducible refine wp_load27 (o := ⟨some 40, .load 27 (.tmp 2), _, _, _, _⟩) ?_ (.tmp 2) ?_ w.heap.size ?_ a0 v0 l0 hu ?_); (· rfl); (· rfl); (· rfl); simp only [Act.put, List.setIfInBounds_toArray, List.set_cons_zero, List.set_cons_succ])
  refine (CO.out _ HM4.out HS4.out).mono ?_
  rintro e X5 ⟨rfl, hB⟩
  clear hu
  have hnew := zero_at X5
  have hC := below_row ((Below.refl X5.heap.size X5).alloc (Nat.le_refl _) (.cells #[.bool false, .string ⟨#[]⟩, .int .i64 0, .string ⟨#[]⟩, .int .i64 0, .int .i64 0, .int .i64 0, .int .i64 0, .int .i64 0, .int .i64 0, .int .i64 0, .int .i64 0, .int .i64 0, .int .i64 0] 29)) (Nat.le_refl _) (cO o)
  have hB2 := below_trans hB hC
  have HB5 := Lib.hid (below_trans HB4.out hB2)
  have HU5 := Lib.hid (HU4.out.later hB2)
  have HV5 := Lib.hid (HV4.out.later hB2)
  have HM5 := Lib.hid (HM4.out.later hB2)
  have HS5 := Lib.hid (HS4.out.later hB2)
  have HT5 := Lib.hid (HT4.out.later hB2)
  have HO5 := Lib.hid (hnew.row o)
  have ho := HO5.out
  clear HB4 HU4 HV4 HM4 HS4 HT4 hB hC hB2
  go_wp2_with (first | ((with_reducible refine wp_store29 (o := ⟨none, .store 29 (.tmp 8) (.tmp 41), _, _, _, _⟩) ?_ (.tmp 8) (.tmp 41) ?_ X5.heap.size ?_ o ?_ O8.out zeroO rfl hnew ?_); (· rfl); (· rfl); (· rfl); (· rfl); simp only [Act.put, List.setIfInBounds_toArray, List.set_cons_zero, List.set_cons_succ]) | ((with_reducible refine wp_load29 (o := ⟨some 42, .load 29 (.tmp 8), _, _, _, _⟩) ?_ (.tmp 8) ?_ X5.heap.size ?_ o O8.out ho ?_); (· rfl); (· rfl); (· rfl); simp only [Act.put, List.setIfInBounds_toArray, List.set_cons_zero, List.set_cons_succ]))
  clear hnew ho
  generalize (X5.alloc (.cells #[.bool false, .string ⟨#[]⟩, .int .i64 0, .string ⟨#[]⟩, .int .i64 0, .int .i64 0, .int .i64 0, .int .i64 0, .int .i64 0, .int .i64 0, .int .i64 0, .int .i64 0, .int .i64 0, .int .i64 0] 29)).setRow X5.heap.size (cO o) = V5 at HB5 HU5 HV5 HM5 HS5 HT5 HO5 ⊢
  generalize X5.heap.size = go at HO5 ⊢
  refine (CS.out _ HM5.out).mono ?_
  rintro e X6 ⟨rfl, hB⟩
  have HB6 := Lib.hid (below_trans HB5.out hB)
  have HU6 := Lib.hid (HU5.out.later hB)
  have HV6 := Lib.hid (HV5.out.later hB)
  have HM6 := Lib.hid (HM5.out.later hB)
  have HS6 := Lib.hid (HS5.out.later hB)
  have HT6 := Lib.hid (HT5.out.later hB)
  have HO6 := Lib.hid (HO5.out.later hB)
  clear HB5 HU5 HV5 HM5 HS5 HT5 HO5
  clear hB CS
  go_wp2_with fail
  have CQ := parse_at (showO o) (by have := HSs.out; rw [← size_tb HSb.out]; omega) (adr o) true K2.out K1.out m _ HM6.out
  rw [HSb.out] at CQ
  refine CQ.mono ?_
  rintro e X7 ⟨pv, rfl, hst, hn, hB⟩
  clear CQ
  have LA : (adr o).h.p.length = 8 := O8.out
  have hone := strs_one hst
  have hnew := new_url X7
  have hB2 := below_trans hB (below_url X7 (adr o) pv)
  have HB7 := Lib.hid (below_trans HB6.out hB2)
  have HU7 := Lib.hid (HU6.out.later hB2)
  have HV7 := Lib.hid (HV6.out.later hB2)
  have HM7 := Lib.hid (HM6.out.later hB2)
  have HS7 := Lib.hid (HS6.out.later hB2)
  have HT7 := Lib.hid (HT6.out.later hB2)
  have HO7 := Lib.hid (HO6.out.later hB2)
  have HP_7 := Lib.hid (hst.later (below_url X7 (adr o) pv))
  have HX_7 := Lib.hid (hnew.row (adr o) pv)
  clear HB6 HU6 HV6 HM6 HS6 HT6 HO6 hst hn hB hB2
  have hu0 := HU7.out
  go_wp2_with (first | ((with_reducible refine wp_store27 (o := ⟨none, .store 27 (.tmp 10) (.tmp 47), _, _, _, _⟩) ?_ (.tmp 10) (.tmp 47) ?_ X7.heap.size ?_ (adr o) pv ?_ LA hone none1 (.slice none 0 0) rfl hnew ?_); (· rfl); (· rfl); (· rfl); (· rfl); simp only [Act.put, List.setIfInBounds_toArray, List.set_cons_zero, List.set_cons_succ]) | ((with_reducible refine wp_load27 (o := ⟨some 49, .load 27 (.tmp 2), _, _, _, _⟩) ?_ (.tmp 2) ?_ w.heap.size ?_ a0 v0 l0 hu0 ?_); (· rfl); (· rfl); (· rfl); simp only [Act.put, List.setIfInBounds_toArray, List.set_cons_zero, List.set_cons_succ]))
  clear hu0
  generalize (X7.alloc (.cells #[.string ⟨#[]⟩, .string ⟨#[]⟩, .string ⟨#[]⟩, .int .i64 0, .string ⟨#[]⟩, .int .i64 0, .int .i64 0, .int .i64 0, .int .i64 0, .int .i64 0, .int .i64 0, .int .i64 0, .int .i64 0, .int .i64 0, .int .i64 0, .slice none 0 0, .string ⟨#[]⟩, .string ⟨#[]⟩, .string ⟨#[]⟩, .bool false, .bool false] 27)).setRow X7.heap.size (cU (adr o) pv) = V7 at HB7 HU7 HV7 HM7 HS7 HT7 HO7 HP_7 HX_7 ⊢
  generalize X7.heap.size = gx at HX_7 ⊢
  clear hnew hone
  refine (CN.out _ HS7.out).mono ?_
  rintro e X8 ⟨rv, rfl, hst, hn, hB⟩
  clear CN
  have HB8 := Lib.hid (below_trans HB7.out hB)
  have HU8 := Lib.hid (HU7.out.later hB)
  have HV8 := Lib.hid (HV7.out.later hB)
  have HM8 := Lib.hid (HM7.out.later hB)
  have HS8 := Lib.hid (HS7.out.later hB)
  have HT8 := Lib.hid (HT7.out.later hB)
  have HO8 := Lib.hid (HO7.out.later hB)
  have HX_8 := Lib.hid (HX_7.out.later hB)
  have HP_8 := Lib.hid (HP_7.out.later hB)
  clear HB7 HU7 HV7 HM7 HS7 HT7 HO7 HX_7 HP_7
  have hone := strs_one hst
  clear hB hn hst
  have HBz := Lib.hid (Below.refl X8.heap.size X8)
  obtain ⟨bz, hbz⟩ : ∃ n, X8.heap.size = n := ⟨_, rfl⟩
  have HBZ := Lib.hid hbz
  clear hbz
  have LOo : (openU a0).h.p.length = 8 := l0
  have hnew := new_url X8
  have hC := below_url X8 (openU a0) rv
  have NHY := Lib.hid (show bz ≤ X8.heap.size from Nat.le_trans (Nat.le_of_eq HBZ.out.symm) HBz.out.size)
  have Hy := Lib.hid (below_trans HBz.out hC)
  clear HBz
  have HBz := Hy
  clear Hy
  have HY := Lib.hid (hnew.row (openU a0) rv)
  clear hC
  go_upto_region 10 with ((with_reducible refine wp_store27 (o := ⟨none, .store 27 (.tmp 12) (.tmp 50), _, _, _, _⟩) ?_ (.tmp 12) (.tmp 50) ?_ X8.heap.size ?_ (openU a0) rv ?_ LOo hone none1 (.slice none 0 0) rfl hnew ?_); (· rfl); (· rfl); (· rfl); (· rfl); simp only [Act.put, List.setIfInBounds_toArray, List.set_cons_zero, List.set_cons_succ])
  clear hnew
  generalize (X8.alloc (.cells #[.string ⟨#[]⟩, .string ⟨#[]⟩, .string ⟨#[]⟩, .int .i64 0, .string ⟨#[]⟩, .int .i64 0, .int .i64 0, .int .i64 0, .int .i64 0, .int .i64 0, .int .i64 0, .int .i64 0, .int .i64 0, .int .i64 0, .int .i64 0, .slice none 0 0, .string ⟨#[]⟩, .string ⟨#[]⟩, .string ⟨#[]⟩, .bool false, .bool false] 27)).setRow X8.heap.size (cU (openU a0) rv) = C1 at HBz HY  ⊢
  generalize X8.heap.size = gy at NHY HY  ⊢
  have hC := (Below.refl C1.heap.size C1).alloc (Nat.le_refl _) (.cells #[.string ⟨#[111, 116, 104, 101, 114]⟩] 9)
  have NHN := Lib.hid (show bz ≤ C1.heap.size from Nat.le_trans (Nat.le_of_eq HBZ.out.symm) HBz.out.size)
  have NHNHY := Lib.hid (show gy < C1.heap.size from HY.out.lt)
  have Hy := Lib.hid (below_trans HBz.out hC)
  clear HBz
  have HBz := Hy
  clear Hy
  have Hy := Lib.hid (HY.out.later hC)
  clear HY
  have HY := Hy
  clear Hy
  have HN := Lib.hid (show TAt (C1.alloc (.cells #[.string ⟨#[111, 116, 104, 101, 114]⟩] 9)) C1.heap.size [[111, 116, 104, 101, 114]] from TAt.new C1 [[111, 116, 104, 101, 114]])
  clear hC
  have dd := HY.out.cell 15
  rw [(cU_at (openU a0) rv (by exact l0)).2.2.2.2.2.1] at dd
  have ff := HY.out.free 15
  go_upto_region 11 with fail
  clear dd ff
  generalize C1.heap.size = gs at NHN HN NHNHY ⊢
  generalize C1.alloc (.cells #[.string ⟨#[111, 116, 104, 101, 114]⟩] 9) = C2 at HBz HN HY ⊢
  have THY := Lib.hid (show UrlAt (C2.setCell ⟨gy, 15, none⟩ (.slice (some ⟨gs, 0, none⟩) 1 1)) gy { openU a0 with path := [otherT] } (.slice (some ⟨gs, 0, none⟩) 1 1) from HY.out.pth (by exact l0) [[111, 116, 104, 101, 114]] (.slice (some ⟨gs, 0, none⟩) 1 1))
  have THN := Lib.hid (show TAt (C2.setCell ⟨gy, 15, none⟩ (.slice (some ⟨gs, 0, none⟩) 1 1)) gs _ from t_set HN.out (by have := NHNHY.out; omega) (j := 15) (.slice (some ⟨gs, 0, none⟩) 1 1))
  have TBz := Lib.hid (below_set HBz.out (Nat.le_trans (Nat.le_of_eq HBZ.out) NHY.out) 15 (.slice (some ⟨gs, 0, none⟩) 1 1))
  clear HY HN HBz
  generalize C2.setCell ⟨gy, 15, none⟩ (.slice (some ⟨gs, 0, none⟩) 1 1) = C3 at THY THN TBz ⊢
  have HY := THY
  clear THY
  have HN := THN
  clear THN
  have HBz := TBz
  clear TBz
  have dd := HY.out.cell 17
  rw [(cU_at { openU a0 with path := [otherT] } (.slice (some ⟨gs, 0, none⟩) 1 1) (by exact l0)).2.2.2.2.2.2.2.1] at dd
  have ff := HY.out.free 17
  go_upto_region 12 with fail
  clear dd ff
  have THY := Lib.hid (show UrlAt (C3.setCell ⟨gy, 17, none⟩ (.string ⟨#[]⟩)) gy { openU a0 with path := [otherT], qry := [] } (.slice (some ⟨gs, 0, none⟩) 1 1) from HY.out.qry (by exact l0) [])
  have THN := Lib.hid (show TAt (C3.setCell ⟨gy, 17, none⟩ (.string ⟨#[]⟩)) gs _ from t_set HN.out (by have := NHNHY.out; omega) (j := 17) (.string ⟨#[]⟩))
  have TBz := Lib.hid (below_set HBz.out (Nat.le_trans (Nat.le_of_eq HBZ.out) NHY.out) 17 (.string ⟨#[]⟩))
  clear HY HN HBz
  generalize C3.setCell ⟨gy, 17, none⟩ (.string ⟨#[]⟩) = C4 at THY THN TBz ⊢
  have HY := THY
  clear THY
  have HN := THN
  clear THN
  have HBz := TBz
  clear TBz
  have dd := HY.out.cell 19
  rw [(cU_at { openU a0 with path := [otherT], qry := [] } (.slice (some ⟨gs, 0, none⟩) 1 1) (by exact l0)).2.2.2.2.2.2.2.2.2.1] at dd
  have ff := HY.out.free 19
  go_upto_region 13 with fail
  clear dd ff
  have THY := Lib.hid (show UrlAt (C4.setCell ⟨gy, 19, none⟩ (.bool false)) gy { openU a0 with path := [otherT], qry := [], hq := false } (.slice (some ⟨gs, 0, none⟩) 1 1) from HY.out.hq (by exact l0) false)
  have THN := Lib.hid (show TAt (C4.setCell ⟨gy, 19, none⟩ (.bool false)) gs _ from t_set HN.out (by have := NHNHY.out; omega) (j := 19) (.bool false))
  have TBz := Lib.hid (below_set HBz.out (Nat.le_trans (Nat.le_of_eq HBZ.out) NHY.out) 19 (.bool false))
  clear HY HN HBz
  generalize C4.setCell ⟨gy, 19, none⟩ (.bool false) = C5 at THY THN TBz ⊢
  have HY := THY
  clear THY
  have HN := THN
  clear THN
  have HBz := TBz
  clear TBz
  obtain ⟨Y, hY⟩ : ∃ y, ({ openU a0 with path := [otherT], qry := [], hq := false } : U) = y := ⟨_, rfl⟩
  have HYY := Lib.hid (show UrlAt C5 gy Y (.slice (some ⟨gs, 0, none⟩) 1 1) from by have h := HY.out; rw [← hY]; exact h)
  have HYS := Lib.hid (show Path.Strs C5 (.slice (some ⟨gs, 0, none⟩) 1 1) Y.path from by rw [← hY]; exact HN.out.strs 1 rfl (by unfold maxLen; omega))
  have LY := Lib.hid (show Y.h.p.length = 8 by rw [← hY]; exact l0)
  have FY : Fit Y := by
    rw [← hY]
    have f := open_fit HF0.out
    exact ⟨f.h8, f.hs, (show ([otherT] : List T).length ≤ 10000 by decide), (show ∀ t ∈ ([otherT] : List T), t.length ≤ 1000000 by decide), f.sch, f.usr, f.pas, f.opq, Nat.zero_le _, f.frg⟩
  have k6 := K6.out
  rw [hY] at k6
  have FX := adr_fit o O8.out OS.out OL.out
  have CY := Lib.hid (fun y hm hs => of_any Y (.slice (some ⟨gs, 0, none⟩) 1 1) FY o k6 m y hm hs)
  have CX := Lib.hid (fun y hm hs => of_any (adr o) pv FX o K3.out m y hm hs)
  obtain ⟨G, hG⟩ : ∃ n, S ++ (⟨#[47]⟩ : ByteArray) = n := ⟨_, rfl⟩
  have hshow : tb (showU (adr o)) = G := by
    rw [K4.out, ← hG, ← HSb.out]
    apply ByteArray.ext
    apply Array.toList_inj.1
    show _ = (tb (showO o) ++ (⟨#[47]⟩ : ByteArray)).data.toList
    rw [Path.text_append, tb_list, tb_list]
  have CW := Lib.hid (fun y hm hs => Show.show_any (adr o) pv FX G hshow m y hm hs)
  have HG := Lib.hid hG
  have heq := fun y => eq29 o o O8.out O8.out true ((eqO_iff o o).2 rfl) y
  have HEQ := Lib.hid heq
  clear hY FY k6 FX hG hshow heq HY HN LOo hone K1 K2 K3 K4 K6
  have HU := Lib.hid (HU8.out.later HBz.out)
  have HV := Lib.hid (HV8.out.later HBz.out)
  have HO := Lib.hid (HO8.out.later HBz.out)
  have HXx := Lib.hid (HX_8.out.later HBz.out)
  have HPp := Lib.hid (HP_8.out.later HBz.out)
  have HM := Lib.hid (HM8.out.later HBz.out)
  have HS := Lib.hid (HS8.out.later HBz.out)
  have HT := Lib.hid (HT8.out.later HBz.out)
  have HB := Lib.hid (below_trans HB8.out HBz.out)
  clear HU8 HV8 HO8 HX_8 HP_8 HM8 HS8 HT8 HB8 HBz
  go_wp2_with fail
  have hc : Below C5.heap.size C5 C5.drew := (Below.refl _ _).drew
  refine wp_region_held_drew (S := fun v => UrlAt v w.heap.size a0 v0 ∧ UrlAt v (w.heap.size + 1) a1 v1 ∧ OAt v go o ∧ UrlAt v gx (adr o) pv ∧ UrlAt v gy Y (.slice (some ⟨gs, 0, none⟩) 1 1)) (by kernel_rfl) ⟨HU.out.later hc, HV.out.later hc, HO.out.later hc, HXx.out.later hc, HYY.out.later hc⟩ (fun hS => ?_)
  refine wpAnyH_take (i := 0) (oi := ⟨some 55, .move (.tmp 9), _, _, _, _⟩) (v := .string S) rfl (by kernel_rfl) (by kernel_rfl) (by kernel_rfl) (fun _ _ _ h => h) (Or.inl ⟨by rfl, ?_⟩) (by assumption) ?_
  · (intro v hv; go_simp)
  simp only [Act.put, List.setIfInBounds_toArray, List.set_cons_zero, List.set_cons_succ]
  refine wpAnyH_take (i := 1) (oi := ⟨some 56, .load 27 (.tmp 3), _, _, _, _⟩) (v := .agg (cU a1 v1)) rfl (by kernel_rfl) (by kernel_rfl) (by kernel_rfl) (fun _ _ _ h => h) (Or.inl ⟨by rfl, ?_⟩) (by assumption) ?_
  · (exact fun v hv => run_load_of 27 (.tmp 3) ⟨(w.heap.size + 1), 0, none⟩ rfl (.agg (cU a1 v1)) (hv.2.1.load l1))
  simp only [Act.put, List.setIfInBounds_toArray, List.set_cons_zero, List.set_cons_succ]
  refine wpAnyH_take (i := 5) (oi := ⟨some 60, .load 27 (.tmp 2), _, _, _, _⟩) (v := .agg (cU a0 v0)) rfl (by kernel_rfl) (by kernel_rfl) (by kernel_rfl) (fun _ _ _ h => h) (Or.inl ⟨by rfl, ?_⟩) (by assumption) ?_
  · (exact fun v hv => run_load_of 27 (.tmp 2) ⟨w.heap.size, 0, none⟩ rfl (.agg (cU a0 v0)) (hv.1.load l0))
  simp only [Act.put, List.setIfInBounds_toArray, List.set_cons_zero, List.set_cons_succ]
  refine wpAnyH_take (i := 6) (oi := ⟨some 61, .load 27 (.tmp 3), _, _, _, _⟩) (v := .agg (cU a1 v1)) rfl (by kernel_rfl) (by kernel_rfl) (by kernel_rfl) (fun _ _ _ h => h) (Or.inl ⟨by rfl, ?_⟩) (by assumption) ?_
  · (exact fun v hv => run_load_of 27 (.tmp 3) ⟨(w.heap.size + 1), 0, none⟩ rfl (.agg (cU a1 v1)) (hv.2.1.load l1))
  simp only [Act.put, List.setIfInBounds_toArray, List.set_cons_zero, List.set_cons_succ]
  refine wpAnyH_ready (rs := [2]) (by kernel_rfl) (by simp) ?_
  refine AllReadyH.cons (o := ⟨some 57, .call ⟨.value (.func 15), #[.tmp 56], _⟩, _, _, _, _⟩) rfl (fun K hK => ?_) AllReadyH.nil
  go_simp
  go_at_call 15
  refine (CP.out _ (HM.out.later hc) (HT.out.later hc)).mono ?_
  rintro e x ⟨rfl, hB⟩
  have hc := below_trans hc hB
  refine hK.out _ _ ⟨HU.out.later hc, HV.out.later hc, HO.out.later hc, HXx.out.later hc, HYY.out.later hc⟩ (fun hS => ?_)
  clear hB
  refine wpAnyH_ready (rs := [3]) (by kernel_rfl) (by simp) ?_
  refine AllReadyH.cons (o := ⟨some 58, .call ⟨.value (.func 19), #[.tmp 57], _⟩, _, _, _, _⟩) rfl (fun K hK => ?_) AllReadyH.nil
  go_simp
  go_at_call 19
  refine (CR.out _ (HM.out.later hc)).mono ?_
  rintro e x ⟨rfl, hB⟩
  have hc := below_trans hc hB
  refine hK.out _ _ ⟨HU.out.later hc, HV.out.later hc, HO.out.later hc, HXx.out.later hc, HYY.out.later hc⟩ (fun hS => ?_)
  clear hB
  refine wpAnyH_take (i := 4) (oi := ⟨some 59, .binOp .eql 9 (.tmp 55) (.tmp 58) 9, _, _, _, _⟩) (v := .bool c) rfl (by kernel_rfl) (by kernel_rfl) (by kernel_rfl) (fun _ _ _ h => h) (Or.inl ⟨by rfl, ?_⟩) (by assumption) ?_
  · (intro v hv; have h5 := K5.out; go_simp)
  simp only [Act.put, List.setIfInBounds_toArray, List.set_cons_zero, List.set_cons_succ]
  refine wpAnyH_ready (rs := [7]) (by kernel_rfl) (by simp) ?_
  refine AllReadyH.cons (o := ⟨some 62, .call ⟨.value (.func 22), #[.tmp 60, .tmp 61], _⟩, _, _, _, _⟩) rfl (fun K hK => ?_) AllReadyH.nil
  go_simp
  go_at_call 22
  refine (CB.out _ (HM.out.later hc) (HS.out.later hc) (HT.out.later hc)).mono ?_
  rintro e x ⟨rfl, hB⟩
  have hc := below_trans hc hB
  refine hK.out _ _ ⟨HU.out.later hc, HV.out.later hc, HO.out.later hc, HXx.out.later hc, HYY.out.later hc⟩ (fun hS => ?_)
  clear hB
  refine wpAnyH_take (i := 8) (oi := ⟨some 63, .binOp .eql 4 (.tmp 59) (.tmp 62) 4, _, _, _, _⟩) (v := .bool true) rfl (by kernel_rfl) (by kernel_rfl) (by kernel_rfl) (fun _ _ _ h => h) (Or.inl ⟨by rfl, ?_⟩) (by assumption) ?_
  · (intro v hv; go_simp)
  simp only [Act.put, List.setIfInBounds_toArray, List.set_cons_zero, List.set_cons_succ]
  refine wpAnyH_take (i := 9) (oi := ⟨some 64, .move (.tmp 63), _, _, _, _⟩) (v := .bool true) rfl (by kernel_rfl) (by kernel_rfl) (by kernel_rfl) (fun _ _ _ h => h) (Or.inl ⟨by rfl, ?_⟩) (by assumption) ?_
  · (intro v hv; go_simp)
  simp only [Act.put, List.setIfInBounds_toArray, List.set_cons_zero, List.set_cons_succ]
  refine wpAnyH_take (i := 10) (oi := ⟨some 65, .move (.tmp 11), _, _, _, _⟩) (v := .bool true) rfl (by kernel_rfl) (by kernel_rfl) (by kernel_rfl) (fun _ _ _ h => h) (Or.inl ⟨by rfl, ?_⟩) (by assumption) ?_
  · (intro v hv; go_simp)
  simp only [Act.put, List.setIfInBounds_toArray, List.set_cons_zero, List.set_cons_succ]
  refine wpAnyH_take (i := 11) (oi := ⟨some 66, .pick (.tmp 64) (.tmp 65) (.const (.bool false)), _, _, _, _⟩) (v := .bool true) rfl (by kernel_rfl) (by kernel_rfl) (by kernel_rfl) (fun _ _ _ h => h) (Or.inl ⟨by rfl, ?_⟩) (by assumption) ?_
  · (intro v hv; go_simp)
  simp only [Act.put, List.setIfInBounds_toArray, List.set_cons_zero, List.set_cons_succ]
  refine wpAnyH_take (i := 12) (oi := ⟨some 67, .move (.tmp 66), _, _, _, _⟩) (v := .bool true) rfl (by kernel_rfl) (by kernel_rfl) (by kernel_rfl) (fun _ _ _ h => h) (Or.inl ⟨by rfl, ?_⟩) (by assumption) ?_
  · (intro v hv; go_simp)
  simp only [Act.put, List.setIfInBounds_toArray, List.set_cons_zero, List.set_cons_succ]
  refine wpAnyH_take (i := 13) (oi := ⟨some 68, .load 27 (.tmp 10), _, _, _, _⟩) (v := .agg (cU (adr o) pv)) rfl (by kernel_rfl) (by kernel_rfl) (by kernel_rfl) (fun _ _ _ h => h) (Or.inl ⟨by rfl, ?_⟩) (by assumption) ?_
  · (exact fun v hv => run_load_of 27 (.tmp 10) ⟨gx, 0, none⟩ rfl (.agg (cU (adr o) pv)) (hv.2.2.2.1.load O8.out))
  simp only [Act.put, List.setIfInBounds_toArray, List.set_cons_zero, List.set_cons_succ]
  refine wpAnyH_take (i := 15) (oi := ⟨some 70, .load 29 (.tmp 8), _, _, _, _⟩) (v := .agg (cO o)) rfl (by kernel_rfl) (by kernel_rfl) (by kernel_rfl) (fun _ _ _ h => h) (Or.inl ⟨by rfl, ?_⟩) (by assumption) ?_
  · (exact fun v hv => run_load_of 29 (.tmp 8) ⟨go, 0, none⟩ rfl (.agg (cO o)) (hv.2.2.1.load O8.out))
  simp only [Act.put, List.setIfInBounds_toArray, List.set_cons_zero, List.set_cons_succ]
  refine wpAnyH_ready (rs := [14]) (by kernel_rfl) (by simp) ?_
  refine AllReadyH.cons (o := ⟨some 69, .call ⟨.value (.func 15), #[.tmp 68], _⟩, _, _, _, _⟩) rfl (fun K hK => ?_) AllReadyH.nil
  go_simp
  go_at_call 15
  refine (CX.out _ (HM.out.later hc) (HPp.out.later hc)).mono ?_
  rintro e x ⟨rfl, hB⟩
  have hc := below_trans hc hB
  refine hK.out _ _ ⟨HU.out.later hc, HV.out.later hc, HO.out.later hc, HXx.out.later hc, HYY.out.later hc⟩ (fun hS => ?_)
  clear hB
  refine wpAnyH_take (i := 16) (oi := ⟨some 71, .binOp .eql 29 (.tmp 69) (.tmp 70) 29, _, _, _, _⟩) (v := .bool true) rfl (by kernel_rfl) (by kernel_rfl) (by kernel_rfl) (fun _ _ _ h => h) (Or.inl ⟨by rfl, ?_⟩) (by assumption) ?_
  · (intro v hv; have he := HEQ.out; go_simp)
  simp only [Act.put, List.setIfInBounds_toArray, List.set_cons_zero, List.set_cons_succ]
  refine wpAnyH_take (i := 17) (oi := ⟨some 72, .pick (.tmp 67) (.tmp 71) (.const (.bool false)), _, _, _, _⟩) (v := .bool true) rfl (by kernel_rfl) (by kernel_rfl) (by kernel_rfl) (fun _ _ _ h => h) (Or.inl ⟨by rfl, ?_⟩) (by assumption) ?_
  · (intro v hv; go_simp)
  simp only [Act.put, List.setIfInBounds_toArray, List.set_cons_zero, List.set_cons_succ]
  refine wpAnyH_take (i := 18) (oi := ⟨some 73, .move (.tmp 72), _, _, _, _⟩) (v := .bool true) rfl (by kernel_rfl) (by kernel_rfl) (by kernel_rfl) (fun _ _ _ h => h) (Or.inl ⟨by rfl, ?_⟩) (by assumption) ?_
  · (intro v hv; go_simp)
  simp only [Act.put, List.setIfInBounds_toArray, List.set_cons_zero, List.set_cons_succ]
  refine wpAnyH_take (i := 19) (oi := ⟨some 74, .load 27 (.tmp 12), _, _, _, _⟩) (v := .agg (cU Y (.slice (some ⟨gs, 0, none⟩) 1 1))) rfl (by kernel_rfl) (by kernel_rfl) (by kernel_rfl) (fun _ _ _ h => h) (Or.inl ⟨by rfl, ?_⟩) (by assumption) ?_
  · (exact fun v hv => run_load_of 27 (.tmp 12) ⟨gy, 0, none⟩ rfl (.agg (cU Y (.slice (some ⟨gs, 0, none⟩) 1 1))) (hv.2.2.2.2.load LY.out))
  simp only [Act.put, List.setIfInBounds_toArray, List.set_cons_zero, List.set_cons_succ]
  refine wpAnyH_take (i := 21) (oi := ⟨some 76, .load 29 (.tmp 8), _, _, _, _⟩) (v := .agg (cO o)) rfl (by kernel_rfl) (by kernel_rfl) (by kernel_rfl) (fun _ _ _ h => h) (Or.inl ⟨by rfl, ?_⟩) (by assumption) ?_
  · (exact fun v hv => run_load_of 29 (.tmp 8) ⟨go, 0, none⟩ rfl (.agg (cO o)) (hv.2.2.1.load O8.out))
  simp only [Act.put, List.setIfInBounds_toArray, List.set_cons_zero, List.set_cons_succ]
  refine wpAnyH_ready (rs := [20]) (by kernel_rfl) (by simp) ?_
  refine AllReadyH.cons (o := ⟨some 75, .call ⟨.value (.func 15), #[.tmp 74], _⟩, _, _, _, _⟩) rfl (fun K hK => ?_) AllReadyH.nil
  go_simp
  go_at_call 15
  refine (CY.out _ (HM.out.later hc) (HYS.out.later hc)).mono ?_
  rintro e x ⟨rfl, hB⟩
  have hc := below_trans hc hB
  refine hK.out _ _ ⟨HU.out.later hc, HV.out.later hc, HO.out.later hc, HXx.out.later hc, HYY.out.later hc⟩ (fun hS => ?_)
  clear hB
  refine wpAnyH_take (i := 22) (oi := ⟨some 77, .binOp .eql 29 (.tmp 75) (.tmp 76) 29, _, _, _, _⟩) (v := .bool true) rfl (by kernel_rfl) (by kernel_rfl) (by kernel_rfl) (fun _ _ _ h => h) (Or.inl ⟨by rfl, ?_⟩) (by assumption) ?_
  · (intro v hv; have he := HEQ.out; go_simp)
  simp only [Act.put, List.setIfInBounds_toArray, List.set_cons_zero, List.set_cons_succ]
  refine wpAnyH_take (i := 23) (oi := ⟨some 78, .pick (.tmp 73) (.tmp 77) (.const (.bool false)), _, _, _, _⟩) (v := .bool true) rfl (by kernel_rfl) (by kernel_rfl) (by kernel_rfl) (fun _ _ _ h => h) (Or.inl ⟨by rfl, ?_⟩) (by assumption) ?_
  · (intro v hv; go_simp)
  simp only [Act.put, List.setIfInBounds_toArray, List.set_cons_zero, List.set_cons_succ]
  refine wpAnyH_take (i := 24) (oi := ⟨some 79, .move (.tmp 78), _, _, _, _⟩) (v := .bool true) rfl (by kernel_rfl) (by kernel_rfl) (by kernel_rfl) (fun _ _ _ h => h) (Or.inl ⟨by rfl, ?_⟩) (by assumption) ?_
  · (intro v hv; go_simp)
  simp only [Act.put, List.setIfInBounds_toArray, List.set_cons_zero, List.set_cons_succ]
  refine wpAnyH_take (i := 25) (oi := ⟨some 80, .load 27 (.tmp 10), _, _, _, _⟩) (v := .agg (cU (adr o) pv)) rfl (by kernel_rfl) (by kernel_rfl) (by kernel_rfl) (fun _ _ _ h => h) (Or.inl ⟨by rfl, ?_⟩) (by assumption) ?_
  · (exact fun v hv => run_load_of 27 (.tmp 10) ⟨gx, 0, none⟩ rfl (.agg (cU (adr o) pv)) (hv.2.2.2.1.load O8.out))
  simp only [Act.put, List.setIfInBounds_toArray, List.set_cons_zero, List.set_cons_succ]
  refine wpAnyH_take (i := 27) (oi := ⟨some 82, .move (.tmp 9), _, _, _, _⟩) (v := .string S) rfl (by kernel_rfl) (by kernel_rfl) (by kernel_rfl) (fun _ _ _ h => h) (Or.inl ⟨by rfl, ?_⟩) (by assumption) ?_
  · (intro v hv; go_simp)
  simp only [Act.put, List.setIfInBounds_toArray, List.set_cons_zero, List.set_cons_succ]
  refine wpAnyH_take (i := 28) (oi := ⟨some 83, .binOp .add 9 (.tmp 82) (.const (.string ⟨#[47]⟩)) 9, _, _, _, _⟩) (v := .string G) rfl (by kernel_rfl) (by kernel_rfl) (by kernel_rfl) (fun _ _ _ h => h) (Or.inl ⟨by rfl, ?_⟩) (by assumption) ?_
  · (intro v hv; have a1 := HSs.out; have a2 := HG.out; go_simp; try omega)
  simp only [Act.put, List.setIfInBounds_toArray, List.set_cons_zero, List.set_cons_succ]
  refine wpAnyH_ready (rs := [26]) (by kernel_rfl) (by simp) ?_
  refine AllReadyH.cons (o := ⟨some 81, .call ⟨.value (.func 27), #[.tmp 80], _⟩, _, _, _, _⟩) rfl (fun K hK => ?_) AllReadyH.nil
  go_simp
  go_at_call 27
  refine (CW.out _ (HM.out.later hc) (HPp.out.later hc)).mono ?_
  rintro e x ⟨rfl, hB⟩
  have hc := below_trans hc hB
  refine hK.out _ _ ⟨HU.out.later hc, HV.out.later hc, HO.out.later hc, HXx.out.later hc, HYY.out.later hc⟩ (fun hS => ?_)
  clear hB
  refine wpAnyH_take (i := 29) (oi := ⟨some 84, .binOp .eql 9 (.tmp 81) (.tmp 83) 9, _, _, _, _⟩) (v := .bool true) rfl (by kernel_rfl) (by kernel_rfl) (by kernel_rfl) (fun _ _ _ h => h) (Or.inl ⟨by rfl, ?_⟩) (by assumption) ?_
  · (intro v hv; go_simp)
  simp only [Act.put, List.setIfInBounds_toArray, List.set_cons_zero, List.set_cons_succ]
  refine wpAnyH_take (i := 30) (oi := ⟨some 85, .pick (.tmp 79) (.tmp 84) (.const (.bool false)), _, _, _, _⟩) (v := .bool true) rfl (by kernel_rfl) (by kernel_rfl) (by kernel_rfl) (fun _ _ _ h => h) (Or.inl ⟨by rfl, ?_⟩) (by assumption) ?_
  · (intro v hv; go_simp)
  simp only [Act.put, List.setIfInBounds_toArray, List.set_cons_zero, List.set_cons_succ]
  refine wpAnyH_take (i := 31) (oi := ⟨some 4, .assign (.tmp 85), _, _, _, _⟩) (v := .bool true) rfl (by kernel_rfl) (by kernel_rfl) (by kernel_rfl) (fun _ _ _ h => h) (Or.inl ⟨by rfl, ?_⟩) (by assumption) ?_
  · (intro v hv; go_simp)
  simp only [Act.put, List.setIfInBounds_toArray, List.set_cons_zero, List.set_cons_succ]
  refine wpAnyH_done (by kernel_rfl) ?_ _
  go_wp2
  go_ret
  exact ⟨rfl, HX.out.trans ((below_trans HB.out hc).mono HX.out.size)⟩

/-! ### The row's step -/
theorem reads (os : Os) {H : Type} (enc : TypeId × Value → H) : (DataW.whole enc Tryz.prog ((Card.laidWorld os).forCall (fun _ _ => 0) ⟨#[], #[.agg #[.string ByteArray.empty, .string ByteArray.empty, .string ByteArray.empty, .int .i64 0, .string ByteArray.empty, .int .i64 0, .int .i64 0, .int .i64 0, .int .i64 0, .int .i64 0, .int .i64 0, .int .i64 0, .int .i64 0, .int .i64 0, .int .i64 0, .slice none 0 0, .string ByteArray.empty, .string ByteArray.empty, .string ByteArray.empty, .bool false, .bool false], .agg #[.string ByteArray.empty, .string ByteArray.empty, .string ByteArray.empty, .int .i64 0, .string ByteArray.empty, .int .i64 0, .int .i64 0, .int .i64 0, .int .i64 0, .int .i64 0, .int .i64 0, .int .i64 0, .int .i64 0, .int .i64 0, .int .i64 0, .slice none 0 0, .string ByteArray.empty, .string ByteArray.empty, .string ByteArray.empty, .bool false, .bool false]], []⟩).memory Tryz.f5.params.toList Rows.originShowSpec.vars false (#[.agg #[.string ByteArray.empty, .string ByteArray.empty, .string ByteArray.empty, .int .i64 0, .string ByteArray.empty, .int .i64 0, .int .i64 0, .int .i64 0, .int .i64 0, .int .i64 0, .int .i64 0, .int .i64 0, .int .i64 0, .int .i64 0, .int .i64 0, .slice none 0 0, .string ByteArray.empty, .string ByteArray.empty, .string ByteArray.empty, .bool false, .bool false], .agg #[.string ByteArray.empty, .string ByteArray.empty, .string ByteArray.empty, .int .i64 0, .string ByteArray.empty, .int .i64 0, .int .i64 0, .int .i64 0, .int .i64 0, .int .i64 0, .int .i64 0, .int .i64 0, .int .i64 0, .int .i64 0, .int .i64 0, .slice none 0 0, .string ByteArray.empty, .string ByteArray.empty, .string ByteArray.empty, .bool false, .bool false]] : Array Value).toList 8).map (fun x => (x.1, x.2.1)) = some ([.agg [.lit (.string []), .lit (.string []), .lit (.string []), .agg [.lit (.int .i64 0), .lit (.string []), .lit (.int .i64 0), .agg [.lit (.int .i64 0), .lit (.int .i64 0), .lit (.int .i64 0), .lit (.int .i64 0), .lit (.int .i64 0), .lit (.int .i64 0), .lit (.int .i64 0), .lit (.int .i64 0)]], .lit (.int .i64 0), .nil, .lit (.string []), .lit (.string []), .lit (.string []), .lit (.bool false), .lit (.bool false)], .agg [.lit (.string []), .lit (.string []), .lit (.string []), .agg [.lit (.int .i64 0), .lit (.string []), .lit (.int .i64 0), .agg [.lit (.int .i64 0), .lit (.int .i64 0), .lit (.int .i64 0), .lit (.int .i64 0), .lit (.int .i64 0), .lit (.int .i64 0), .lit (.int .i64 0), .lit (.int .i64 0)]], .lit (.int .i64 0), .nil, .lit (.string []), .lit (.string []), .lit (.string []), .lit (.bool false), .lit (.bool false)]], []) := by kernel_rfl
set_option maxRecDepth 100000 in
theorem lifted (os : Os) (started : os.Started) (H : Type) (enc : TypeId × Value → H) (F : Stop.Interp) :
    ReturnsInHanded {} Tryz.checked os 5 .any ((OpenSpec.ofChange Rows.originShowSpec).preRow enc Tryz.prog Tryz.f5 Rows.originShowRow.domain false Rows.originShowRow.laid) (((OpenSpec.ofChange Rows.originShowSpec).at F).post enc Tryz.prog Tryz.f5 false true false false) := by
  obtain ⟨⟨x1, x2, x3⟩, hx, hx1⟩ := Option.map_eq_some_iff.1 (reads os enc)
  simp only [Prod.mk.injEq] at hx1
  obtain ⟨rfl, rfl⟩ := hx1
  refine returnsInHanded_of_row (C := Tryz.checked) (s := OpenSpec.ofChange Rows.originShowSpec) own started (by kernel_rfl) Tryz.func5
    (witness_row_at (enc := enc) (C := Tryz.checked) false (Card.laidWorld os) #[.agg #[.string ByteArray.empty, .string ByteArray.empty, .string ByteArray.empty, .int .i64 0, .string ByteArray.empty, .int .i64 0, .int .i64 0, .int .i64 0, .int .i64 0, .int .i64 0, .int .i64 0, .int .i64 0, .int .i64 0, .int .i64 0, .int .i64 0, .slice none 0 0, .string ByteArray.empty, .string ByteArray.empty, .string ByteArray.empty, .bool false, .bool false], .agg #[.string ByteArray.empty, .string ByteArray.empty, .string ByteArray.empty, .int .i64 0, .string ByteArray.empty, .int .i64 0, .int .i64 0, .int .i64 0, .int .i64 0, .int .i64 0, .int .i64 0, .int .i64 0, .int .i64 0, .int .i64 0, .int .i64 0, .slice none 0 0, .string ByteArray.empty, .string ByteArray.empty, .string ByteArray.empty, .bool false, .bool false]] rfl (by kernel_rfl) (by kernel_rfl) (by kernel_rfl)
      (OpenSpec.preRow_of_cond 8 hx (by kernel_rfl) (fun k hk => by cases hk) (by kernel_rfl) (Card.laid_met os _))) ?_
  intro W base args ds gs before hval0 hW _ _ _ hL hsh _
  obtain ⟨m, hmax⟩ := Card.maxLen_int hsh
  have hm : Six.At m W := ⟨hmax, Six.tab_of hL⟩
  have hval : ∀ (j : Nat) t v, Tryz.f5.params[j]? = some t → args[j]? = some v → Value.okWide Tryz.prog W .any base t v := hval0
  have hW' := hW
  obtain ⟨p, q, hA0, hV, rfl, hfz, hnd⟩ := hW
  have hA : DataW.TrodAll enc Tryz.prog W 0 (fun _ => true) true Tryz.f5.params.toList args.toList ds p := hA0
  rw [Tryz.params5] at hA hval
  obtain ⟨v0, vs0, d0, ds0, p0, q0, hargs0, rfl, rfl, t0, r0⟩ := trodAll_cons hA
  obtain ⟨v1, vs1, d1, ds1, p1, q1, hargs1, rfl, rfl, t1, r1⟩ := trodAll_cons r0
  obtain ⟨rfl, rfl, rfl⟩ := trodAll_nil r1
  obtain rfl : args = #[v0, v1] := by cases args; simp_all
  obtain ⟨rfl, rfl⟩ := trodVars_none hV
  have k0 := t0
  have lt0 : ∀ x ∈ p0, x.block < W.heap.size := by obtain ⟨m, hm⟩ := k0; exact DataW.trod_lt m _ _ _ hm
  obtain ⟨a0, pv0, l0, rfl, z0, w0⟩ := Url.open_url (hval 0 27 v0 rfl rfl) t0
  have k1 := t1
  have lt1 : ∀ x ∈ p1, x.block < W.heap.size := by obtain ⟨m, hm⟩ := k1; exact DataW.trod_lt m _ _ _ hm
  obtain ⟨a1, pv1, l1, rfl, z1, w1⟩ := Url.open_url (hval 1 27 v1 rfl rfl) t1
  clear hA0 hval0
  simp only [List.append_nil] at hW'
  refine (walk a0 pv0 l0 a1 pv1 l1  m W hm z0 w0 z1 w1).mono fun e W' ⟨he, bel⟩ => ?_
  subst he
  exact ⟨_, rfl, _, _, _, [], _, [], hW', trodAll_mk1 (shut_bool Tryz.underlying4 _), (trodAll_cons_mk (Below.trod laidOut (by kernel_rfl) (of_decide_eq_true (by kernel_rfl)) k0 bel lt0) (trodAll_cons_mk (Below.trod laidOut (by kernel_rfl) (of_decide_eq_true (by kernel_rfl)) k1 bel lt1) trodAll_mk0)), rfl, bel.frame _, fun h => by cases h⟩

theorem said : Rows.originShowRow.holds Tryz.pinned (OpenSpec.ofChange Rows.originShowSpec) :=
  OpenClaim.holds_of_cond 5 Tryz.f5 rfl rfl rfl rfl rfl rfl rfl ⟨rfl, rfl, rfl, rfl, rfl⟩ rfl rfl rfl rfl rfl (by kernel_rfl) Tryz.func5 (by kernel_rfl)
    (of_decide_eq_true (by kernel_rfl)) (by unfold Func.isWrapper; first | (rw [if_pos (by decide +kernel)]; kernel_rfl) | (rw [if_neg (by decide +kernel)]; exact ⟨rfl, rfl⟩))
    (fun os started H enc _ F => by rw [OpenClaim.pre_eq_preRow]; exact lifted os started H enc F)

/-- No parameter wants a stand-in; the program's own looks are on. -/
theorem plain (f : FuncId) (fn : Func) (hf : Tryz.pinned.checked.prog.funcNamed Rows.originShowRow.func = some f) (hfn : Tryz.pinned.checked.prog.funcs[f]? = some fn) :
    true = Tryz.pinned.checked.prog.looks [] ∧ ∀ (j : Nat) t, fn.params[j]? = some t → Tryz.pinned.checked.prog.wantsStandIn t = false := by
  obtain rfl : f = 5 := Option.some.inj ((show Tryz.prog.funcNamed Rows.originShowRow.func = some 5 by kernel_rfl).symm.trans hf) |>.symm
  obtain rfl : fn = Tryz.f5 := (Option.some.inj (Tryz.func5.symm.trans hfn)).symm
  refine ⟨by kernel_rfl, fun j t ht => ?_⟩
  rw [Tryz.params5] at ht
  obtain rfl : t = 27 := by simpa using Array.mem_of_getElem? ht
  · exact (show Tryz.prog.wantsStandIn 27 = false by kernel_rfl)

/-- The statement: the card. -/
theorem proved : Rows.OriginShowCardSaid :=
  Claim7.holds_tied_plain_at .later [] _ _ _ _ said (fun _ h => by cases h) (by kernel_rfl) (fun _ h => by cases h) originShow_row_tie rfl ⟨rfl, rfl⟩ (by kernel_rfl) rfl plain (by kernel_rfl)
#print axioms proved
end Go.Proofs.YtkhgdcpkhbpemaaGreatDoor.originShow
