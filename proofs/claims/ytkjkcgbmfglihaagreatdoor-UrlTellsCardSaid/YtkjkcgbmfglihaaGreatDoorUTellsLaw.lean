/-
  WHAT IS PROVED: the card of UrlTells: of any text of at most 400 bytes, and any two addresses whose parts are few and short: the text has the scheme, the tail, and the address, or none, an address may be, or not, and the two are the same, or not, as the document's own functions say.
  CONDITIONS: none but the card's own: the listed tables read as their texts lay them; the text and the addresses are any.
-/
import Derived.Test.YtkjkcgbmfglihaaGreatDoorCards
import Derived.Test.YtkjkcgbmfglihaaGreatDoorTie
import Derived.WalkKit
import Derived.ProofKit
import Derived.OpenShut
import Derived.ShutString
import Derived.ChangeOld
import Derived.Below
import Derived.Deep.RegionHeld
import Derived.Laws.AppendOwnNone
import Derived.Test.YtkjkcgbmfglihaaGreatDoorSHRefI
import Derived.Test.YtkjkcgbmfglihaaGreatDoorLaid
import Derived.Test.YtkjkcgbmfglihaaGreatDoorHOpen
namespace Go.Proofs.YtkjkcgbmfglihaaGreatDoor.urlTells
open Go.ChangeShapes Go.WideShapes Go.ChangeAt Go.RowKit
open Go.ChangeMaps (open_string shut_string)
open Go.Shelf
open Go.Proofs.YtkjkcgbmfglihaaGreatDoor.Url
open Go.Proofs.YtkjkcgbmfglihaaGreatDoor.Host (H)
open Go.Proofs.YtkjkcgbmfglihaaGreatDoor.Path (Strs)
set_option linter.unusedSimpArgs false
set_option linter.unusedVariables false

theorem own : ownKnob Tryz.prog.godebug = none := by kernel_rfl
theorem laidOut : laidOutB Tryz.prog = true := by kernel_rfl

theorem few_path {u : U} (h : fewU u = true) : u.path.length ≤ 60 ∧ ∀ t ∈ u.path, t.length ≤ 300 := by
  unfold fewU at h
  rw [Bool.and_eq_true] at h
  exact (Path.few_iff _).1 h.1
set_option maxRecDepth 100000
set_option maxHeartbeats 16000000 in
theorem walk (a0 : ByteArray) (a1 : U) (v1 : Value) (l1 : a1.h.p.length = 8) (a2 : U) (v2 : Value) (l2 : a2.h.p.length = 8) (w0 : a0.size ≤ maxLen) (m : Int) (w : World) (hm : Six.At m w)
    (s1 : Path.Strs w v1 a1.path) (w1 : (Lit.int .i64 a1.port).wf = true) (s2 : Path.Strs w v2 a2.path) (w2 : (Lit.int .i64 a2.port).wf = true) :
    Calls Tryz.prog 3 #[.string a0, .agg (cU a1 v1), .agg (cU a2 v2)] w fun e w' => e = .returned (.bool true) ∧ Below w.heap.size w w' := by
  have e1 : (w.alloc (.cells (cU a1 v1) 27)).heap.size = w.heap.size + 1 := Array.size_push _
  have b1 := (Below.refl w.heap.size w).alloc (Nat.le_refl _) (.cells (cU a1 v1) 27)
  have HX := Lib.hid (b1.alloc (by omega) (.cells (cU a2 v2) 27))
  have HU0 := Lib.hid ((UrlAt.new w a1 v1).past (.cells (cU a2 v2) 27))
  have HV0 := Lib.hid (show UrlAt ((w.alloc (.cells (cU a1 v1) 27)).alloc (.cells (cU a2 v2) 27)) (w.heap.size + 1) a2 v2 from by rw [← e1]; exact UrlAt.new _ a2 v2)
  have HM0 := Lib.hid (hm.later HX.out)
  have HS0 := Lib.hid (s1.later HX.out)
  have HT0 := Lib.hid (s2.later HX.out)
  unfold maxLen at w0
  clear e1 b1 hm s1 s2 w1 w2
  go_enter Tryz.func3, Tryz.ntmps3
  simp only [List.append_eq, List.cons_append, List.nil_append]
  go_wp2_with fail
  generalize (w.alloc (.cells (cU a1 v1) 27)).alloc (.cells (cU a2 v2) 27) = X0 at HX HU0 HV0 HM0 HS0 HT0 ⊢
  refine (Url.awake_calls m X0 HM0.out).mono ?_
  rintro e X1 ⟨rfl, hB⟩
  have HB1 := Lib.hid (hB)
  have HU1 := Lib.hid (HU0.out.later hB)
  have HV1 := Lib.hid (HV0.out.later hB)
  have HM1 := Lib.hid (HM0.out.later hB)
  have HS1 := Lib.hid (HS0.out.later hB)
  have HT1 := Lib.hid (HT0.out.later hB)
  clear HU0 HV0 HM0 HS0 HT0
  clear hB
  obtain ⟨f1, hf1⟩ : ∃ b, fewU a1 = b := ⟨_, rfl⟩
  have hu := HU1.out
  go_wp2_with ((with_reducible refine wp_load27 (o := ⟨some 34, .load 27 (.tmp 4), _, _, _, _⟩) ?_ (.tmp 4) ?_ w.heap.size ?_ a1 v1 l1 hu ?_); (· rfl); (· rfl); (· rfl); simp only [Act.put, List.setIfInBounds_toArray, List.set_cons_zero, List.set_cons_succ])
  refine (few_any a1 v1 l1 f1 hf1 _ HS1.out).mono ?_
  rintro e X2 ⟨rfl, hB⟩
  have HB2 := Lib.hid (below_trans HB1.out hB)
  have HU2 := Lib.hid (HU1.out.later hB)
  have HV2 := Lib.hid (HV1.out.later hB)
  have HM2 := Lib.hid (HM1.out.later hB)
  have HS2 := Lib.hid (HS1.out.later hB)
  have HT2 := Lib.hid (HT1.out.later hB)
  clear HB1 HU1 HV1 HM1 HS1 HT1
  clear hB hu
  obtain ⟨f2, hf2⟩ : ∃ b, fewU a2 = b := ⟨_, rfl⟩
  have hu := HV2.out
  go_wp2_with ((with_reducible refine wp_load27 (o := ⟨some 36, .load 27 (.tmp 5), _, _, _, _⟩) ?_ (.tmp 5) ?_ (w.heap.size + 1) ?_ a2 v2 l2 hu ?_); (· rfl); (· rfl); (· rfl); simp only [Act.put, List.setIfInBounds_toArray, List.set_cons_zero, List.set_cons_succ])
  refine (few_any a2 v2 l2 f2 hf2 _ HT2.out).mono ?_
  rintro e X3 ⟨rfl, hB⟩
  have HB3 := Lib.hid (below_trans HB2.out hB)
  have HU3 := Lib.hid (HU2.out.later hB)
  have HV3 := Lib.hid (HV2.out.later hB)
  have HM3 := Lib.hid (HM2.out.later hB)
  have HS3 := Lib.hid (HS2.out.later hB)
  have HT3 := Lib.hid (HT2.out.later hB)
  clear HB2 HU2 HV2 HM2 HS2 HT2
  clear hB hu
  cases f1
  · go_wp2
    go_ret
    exact ⟨rfl, HX.out.trans (HB3.out.mono HX.out.size)⟩
  cases f2
  · go_wp2
    go_ret
    exact ⟨rfl, HX.out.trans (HB3.out.mono HX.out.size)⟩
  by_cases h0 : a0.size ≤ 400
  case neg =>
    have q0 : decide ((400 : Int) < (a0.size : Int)) = true := decide_eq_true (by omega)
    go_wp2
    go_ret
    exact ⟨rfl, HX.out.trans (HB3.out.mono HX.out.size)⟩
  have q0 : decide ((400 : Int) < (a0.size : Int)) = false := decide_eq_false (by omega)
  have F1 := few_fit a1 l1 hf1
  have hp3 : ∀ t ∈ a1.path, t.length ≤ 30000 := fun t ht => by have := (few_path hf1).2 t ht; omega
  obtain ⟨b, hb⟩ : ∃ b, okU a0.data.toList = b := ⟨_, rfl⟩
  obtain ⟨u, hu⟩ : ∃ u : U, parU a0.data.toList = u := ⟨_, rfl⟩
  obtain ⟨c, hc⟩ : ∃ b, schB a0.data.toList = b := ⟨_, rfl⟩
  obtain ⟨x, hx⟩ : ∃ b, tb (schS a0.data.toList) = b := ⟨_, rfl⟩
  obtain ⟨y, hy⟩ : ∃ b, tb (schR a0.data.toList) = b := ⟨_, rfl⟩
  obtain ⟨ta, hta⟩ : ∃ b, tb (tA a0.data.toList) = b := ⟨_, rfl⟩
  obtain ⟨tq, htq⟩ : ∃ b, tb (tQ a0.data.toList) = b := ⟨_, rfl⟩
  obtain ⟨tf, htf⟩ : ∃ b, tb (tF a0.data.toList) = b := ⟨_, rfl⟩
  obtain ⟨bq, hbq⟩ : ∃ b, tHQ a0.data.toList = b := ⟨_, rfl⟩
  obtain ⟨bf, hbf⟩ : ∃ b, tHF a0.data.toList = b := ⟨_, rfl⟩
  obtain ⟨d, hd⟩ : ∃ b, mayU a1 = b := ⟨_, rfl⟩
  obtain ⟨r, hr⟩ : ∃ b, sameU a1 a2 = b := ⟨_, rfl⟩
  obtain ⟨z, hz⟩ : ∃ b, webI a0.data.toList = b := ⟨_, rfl⟩
  have CP := Lib.hid (fun w hm => parse_in a0 (by omega) b hb m w hm)
  rw [hu] at CP
  have RP := Lib.hid (fun w => refParse_any a0 h0 b hb u hu w)
  have H8 := Lib.hid (show u.h.p.length = 8 by rw [← hu]; exact par8 _)
  have ES := Lib.hid (fun p q z hp hq => refSame_any u u p q H8.out H8.out true ((same_iff _ _).2 rfl) z hp hq)
  have CC := Lib.hid (fun z hz => scheme_any a0 (by omega) x y c hx hy hc m z hz)
  have RC := Lib.hid (fun z => refScheme_any a0 (by omega) x y c hx hy hc z)
  have CT := Lib.hid (fun z hz => tail_any a0 (by omega) ta tq tf bq bf hta htq htf hbq hbf m z hz)
  have RT := Lib.hid (fun z => refTail_any a0 (by omega) ta tq tf bq bf hta htq htf hbq hbf z)
  have RM := Lib.hid (fun z hz => refMay_any a1 v1 F1 hp3 d hd z hz)
  have CM := Lib.hid (fun z hx hy => may_any a1 v1 F1 d hd m z hx hy)
  have RS := Lib.hid (fun z hx hy => refSame_any a1 a2 v1 v2 l1 l2 r hr z hx hy)
  have CS := Lib.hid (fun z hx hy => same_any a1 a2 v1 v2 l1 l2 r hr z hx hy)
  have CW := Lib.hid (fun y => web_any a0 z hz y)
  have RW := Lib.hid (fun y => refWeb_any a0 z hz y)
  clear F1 hp3 hb hu hc hx hy hta htq htf hbq hbf hd hr hz hf1 hf2
  go_wp2_with fail
  refine (CP.out _ HM3.out).mono ?_
  rintro e X4 ⟨pv, rfl, hst, hn, hB⟩
  clear q0 CP
  have hone := strs_one hst
  have hnew := new_url X4
  have hB2 := below_trans hB (below_url X4 u pv)
  have HB4 := Lib.hid (below_trans HB3.out hB2)
  have HU4 := Lib.hid (HU3.out.later hB2)
  have HV4 := Lib.hid (HV3.out.later hB2)
  have HM4 := Lib.hid (HM3.out.later hB2)
  have HS4 := Lib.hid (HS3.out.later hB2)
  have HT4 := Lib.hid (HT3.out.later hB2)
  have HPs4 := Lib.hid (hst.later (below_url X4 u pv))
  have HP4 := Lib.hid (hnew.row u pv)
  clear HB3 HU3 HV3 HM3 HS3 HT3 hst hn hB hB2
  go_wp2_with ((with_reducible refine wp_store27 (o := ⟨none, .store 27 (.tmp 10) (.tmp 57), _, _, _, _⟩) ?_ (.tmp 10) (.tmp 57) ?_ X4.heap.size ?_ u pv ?_ H8.out hone none1 (.slice none 0 0) rfl hnew ?_); (· rfl); (· rfl); (· rfl); (· rfl); simp only [Act.put, List.setIfInBounds_toArray, List.set_cons_zero, List.set_cons_succ])
  generalize (X4.alloc (.cells #[.string ⟨#[]⟩, .string ⟨#[]⟩, .string ⟨#[]⟩, .int .i64 0, .string ⟨#[]⟩, .int .i64 0, .int .i64 0, .int .i64 0, .int .i64 0, .int .i64 0, .int .i64 0, .int .i64 0, .int .i64 0, .int .i64 0, .int .i64 0, .slice none 0 0, .string ⟨#[]⟩, .string ⟨#[]⟩, .string ⟨#[]⟩, .bool false, .bool false] 27)).setRow X4.heap.size (cU u pv) = V4 at HB4 HU4 HV4 HM4 HS4 HT4 HPs4 HP4 ⊢
  generalize X4.heap.size = g1 at HP4 ⊢
  clear hnew hone
  refine (RP.out _).mono ?_
  rintro e X5 ⟨qv, rfl, hst, hn, hB⟩
  clear RP
  have hone := strs_one hst
  have hnew := new_url X5
  have hB2 := below_trans hB (below_url X5 u qv)
  have HB5 := Lib.hid (below_trans HB4.out hB2)
  have HU5 := Lib.hid (HU4.out.later hB2)
  have HV5 := Lib.hid (HV4.out.later hB2)
  have HM5 := Lib.hid (HM4.out.later hB2)
  have HS5 := Lib.hid (HS4.out.later hB2)
  have HT5 := Lib.hid (HT4.out.later hB2)
  have HP5 := Lib.hid (HP4.out.later hB2)
  have HPs5 := Lib.hid (HPs4.out.later hB2)
  have HQs5 := Lib.hid (hst.later (below_url X5 u qv))
  have HQ5 := Lib.hid (hnew.row u qv)
  clear HB4 HU4 HV4 HM4 HS4 HT4 HP4 HPs4 hst hn hB hB2
  have hu0 := HP5.out
  have hu1 := HQ5.out
  go_wp2_with (first | ((with_reducible refine wp_store27 (o := ⟨none, .store 27 (.tmp 12) (.tmp 62), _, _, _, _⟩) ?_ (.tmp 12) (.tmp 62) ?_ X5.heap.size ?_ u qv ?_ H8.out hone none1 (.slice none 0 0) rfl hnew ?_); (· rfl); (· rfl); (· rfl); (· rfl); simp only [Act.put, List.setIfInBounds_toArray, List.set_cons_zero, List.set_cons_succ]) | ((with_reducible refine wp_load27 (o := ⟨some 64, .load 27 (.tmp 10), _, _, _, _⟩) ?_ (.tmp 10) ?_ g1 ?_ u pv H8.out hu0 ?_); (· rfl); (· rfl); (· rfl); simp only [Act.put, List.setIfInBounds_toArray, List.set_cons_zero, List.set_cons_succ]) | ((with_reducible refine wp_load27 (o := ⟨some 65, .load 27 (.tmp 12), _, _, _, _⟩) ?_ (.tmp 12) ?_ X5.heap.size ?_ u qv H8.out hu1 ?_); (· rfl); (· rfl); (· rfl); simp only [Act.put, List.setIfInBounds_toArray, List.set_cons_zero, List.set_cons_succ]))
  clear hu0 hu1
  generalize (X5.alloc (.cells #[.string ⟨#[]⟩, .string ⟨#[]⟩, .string ⟨#[]⟩, .int .i64 0, .string ⟨#[]⟩, .int .i64 0, .int .i64 0, .int .i64 0, .int .i64 0, .int .i64 0, .int .i64 0, .int .i64 0, .int .i64 0, .int .i64 0, .int .i64 0, .slice none 0 0, .string ⟨#[]⟩, .string ⟨#[]⟩, .string ⟨#[]⟩, .bool false, .bool false] 27)).setRow X5.heap.size (cU u qv) = V5 at HB5 HU5 HV5 HM5 HS5 HT5 HP5 HPs5 HQs5 HQ5 ⊢
  generalize X5.heap.size = g2 at HQ5 ⊢
  clear hnew hone
  refine (ES.out pv qv _ HPs5.out HQs5.out).mono ?_
  rintro e X6 ⟨rfl, hB⟩
  have HB6 := Lib.hid (below_trans HB5.out hB)
  have HU6 := Lib.hid (HU5.out.later hB)
  have HV6 := Lib.hid (HV5.out.later hB)
  have HM6 := Lib.hid (HM5.out.later hB)
  have HS6 := Lib.hid (HS5.out.later hB)
  have HT6 := Lib.hid (HT5.out.later hB)
  have HP6 := Lib.hid (HP5.out.later hB)
  have HPs6 := Lib.hid (HPs5.out.later hB)
  have HQ6 := Lib.hid (HQ5.out.later hB)
  have HQs6 := Lib.hid (HQs5.out.later hB)
  clear HB5 HU5 HV5 HM5 HS5 HT5 HP5 HPs5 HQ5 HQs5
  clear hB ES
  clear HP6 HQ6 HPs6 HQs6
  go_wp2_with fail
  refine (CC.out _ HM6.out).mono ?_
  rintro e X7 ⟨rfl, hB⟩
  have HB7 := Lib.hid (below_trans HB6.out hB)
  have HU7 := Lib.hid (HU6.out.later hB)
  have HV7 := Lib.hid (HV6.out.later hB)
  have HM7 := Lib.hid (HM6.out.later hB)
  have HS7 := Lib.hid (HS6.out.later hB)
  have HT7 := Lib.hid (HT6.out.later hB)
  clear HB6 HU6 HV6 HM6 HS6 HT6
  clear hB CC
  go_wp2_with fail
  refine (RC.out _).mono ?_
  rintro e X8 ⟨rfl, hB⟩
  have HB8 := Lib.hid (below_trans HB7.out hB)
  have HU8 := Lib.hid (HU7.out.later hB)
  have HV8 := Lib.hid (HV7.out.later hB)
  have HM8 := Lib.hid (HM7.out.later hB)
  have HS8 := Lib.hid (HS7.out.later hB)
  have HT8 := Lib.hid (HT7.out.later hB)
  clear HB7 HU7 HV7 HM7 HS7 HT7
  clear hB RC
  go_wp2_with fail
  refine (CT.out _ HM8.out).mono ?_
  rintro e X9 ⟨rfl, hB⟩
  have HB9 := Lib.hid (below_trans HB8.out hB)
  have HU9 := Lib.hid (HU8.out.later hB)
  have HV9 := Lib.hid (HV8.out.later hB)
  have HM9 := Lib.hid (HM8.out.later hB)
  have HS9 := Lib.hid (HS8.out.later hB)
  have HT9 := Lib.hid (HT8.out.later hB)
  clear HB8 HU8 HV8 HM8 HS8 HT8
  clear hB CT
  go_wp2_with fail
  refine (RT.out _).mono ?_
  rintro e X10 ⟨rfl, hB⟩
  have HB10 := Lib.hid (below_trans HB9.out hB)
  have HU10 := Lib.hid (HU9.out.later hB)
  have HV10 := Lib.hid (HV9.out.later hB)
  have HM10 := Lib.hid (HM9.out.later hB)
  have HS10 := Lib.hid (HS9.out.later hB)
  have HT10 := Lib.hid (HT9.out.later hB)
  clear HB9 HU9 HV9 HM9 HS9 HT9
  clear hB RT
  have hu := HU10.out
  go_wp2_with ((with_reducible refine wp_load27 (o := ⟨some 95, .load 27 (.tmp 4), _, _, _, _⟩) ?_ (.tmp 4) ?_ w.heap.size ?_ a1 v1 l1 hu ?_); (· rfl); (· rfl); (· rfl); simp only [Act.put, List.setIfInBounds_toArray, List.set_cons_zero, List.set_cons_succ])
  refine (RM.out _ HS10.out).mono ?_
  rintro e X11 ⟨rfl, hB⟩
  have HB11 := Lib.hid (below_trans HB10.out hB)
  have HU11 := Lib.hid (HU10.out.later hB)
  have HV11 := Lib.hid (HV10.out.later hB)
  have HM11 := Lib.hid (HM10.out.later hB)
  have HS11 := Lib.hid (HS10.out.later hB)
  have HT11 := Lib.hid (HT10.out.later hB)
  clear HB10 HU10 HV10 HM10 HS10 HT10
  clear hB hu RM
  have hu := HU11.out
  have hv := HV11.out
  go_wp2_with (first | ((with_reducible refine wp_load27 (o := ⟨some 97, .load 27 (.tmp 4), _, _, _, _⟩) ?_ (.tmp 4) ?_ w.heap.size ?_ a1 v1 l1 hu ?_); (· rfl); (· rfl); (· rfl); simp only [Act.put, List.setIfInBounds_toArray, List.set_cons_zero, List.set_cons_succ]) | ((with_reducible refine wp_load27 (o := ⟨some 98, .load 27 (.tmp 5), _, _, _, _⟩) ?_ (.tmp 5) ?_ (w.heap.size + 1) ?_ a2 v2 l2 hv ?_); (· rfl); (· rfl); (· rfl); simp only [Act.put, List.setIfInBounds_toArray, List.set_cons_zero, List.set_cons_succ]))
  refine (RS.out _ HS11.out HT11.out).mono ?_
  rintro e X12 ⟨rfl, hB⟩
  have HB12 := Lib.hid (below_trans HB11.out hB)
  have HU12 := Lib.hid (HU11.out.later hB)
  have HV12 := Lib.hid (HV11.out.later hB)
  have HM12 := Lib.hid (HM11.out.later hB)
  have HS12 := Lib.hid (HS11.out.later hB)
  have HT12 := Lib.hid (HT11.out.later hB)
  clear HB11 HU11 HV11 HM11 HS11 HT11
  clear hB hu hv RS
  have hu := HU12.out
  go_wp2_with ((with_reducible refine wp_load27 (o := ⟨some 147, .load 27 (.tmp 4), _, _, _, _⟩) ?_ (.tmp 4) ?_ w.heap.size ?_ a1 v1 l1 hu ?_); (· rfl); (· rfl); (· rfl); simp only [Act.put, List.setIfInBounds_toArray, List.set_cons_zero, List.set_cons_succ])
  refine (CM.out _ HM12.out HS12.out).mono ?_
  rintro e X13 ⟨rfl, hB⟩
  have HB13 := Lib.hid (below_trans HB12.out hB)
  have HU13 := Lib.hid (HU12.out.later hB)
  have HV13 := Lib.hid (HV12.out.later hB)
  have HM13 := Lib.hid (HM12.out.later hB)
  have HS13 := Lib.hid (HS12.out.later hB)
  have HT13 := Lib.hid (HT12.out.later hB)
  clear HB12 HU12 HV12 HM12 HS12 HT12
  clear hB hu CM
  have hu := HU13.out
  have hv := HV13.out
  go_wp2_with (first | ((with_reducible refine wp_load27 (o := ⟨some 153, .load 27 (.tmp 4), _, _, _, _⟩) ?_ (.tmp 4) ?_ w.heap.size ?_ a1 v1 l1 hu ?_); (· rfl); (· rfl); (· rfl); simp only [Act.put, List.setIfInBounds_toArray, List.set_cons_zero, List.set_cons_succ]) | ((with_reducible refine wp_load27 (o := ⟨some 154, .load 27 (.tmp 5), _, _, _, _⟩) ?_ (.tmp 5) ?_ (w.heap.size + 1) ?_ a2 v2 l2 hv ?_); (· rfl); (· rfl); (· rfl); simp only [Act.put, List.setIfInBounds_toArray, List.set_cons_zero, List.set_cons_succ]))
  refine (CS.out _ HS13.out HT13.out).mono ?_
  rintro e X14 ⟨rfl, hB⟩
  have HB14 := Lib.hid (below_trans HB13.out hB)
  have HU14 := Lib.hid (HU13.out.later hB)
  have HV14 := Lib.hid (HV13.out.later hB)
  have HM14 := Lib.hid (HM13.out.later hB)
  have HS14 := Lib.hid (HS13.out.later hB)
  have HT14 := Lib.hid (HT13.out.later hB)
  clear HB13 HU13 HV13 HM13 HS13 HT13
  clear hB hu hv CS
  go_wp2_with fail
  refine (CW.out _).mono ?_
  rintro e X ⟨rfl, rfl⟩
  go_wp2_with fail
  refine (RW.out _).mono ?_
  rintro e X ⟨rfl, rfl⟩
  go_wp2
  go_ret
  exact ⟨rfl, HX.out.trans (HB14.out.mono HX.out.size)⟩

/-! ### The row's step -/
theorem reads (os : Os) {H : Type} (enc : TypeId × Value → H) : (DataW.whole enc Tryz.prog ((Card.laidWorld os).forCall (fun _ _ => 0) ⟨#[], #[.string ByteArray.empty, .agg #[.string ByteArray.empty, .string ByteArray.empty, .string ByteArray.empty, .int .i64 0, .string ByteArray.empty, .int .i64 0, .int .i64 0, .int .i64 0, .int .i64 0, .int .i64 0, .int .i64 0, .int .i64 0, .int .i64 0, .int .i64 0, .int .i64 0, .slice none 0 0, .string ByteArray.empty, .string ByteArray.empty, .string ByteArray.empty, .bool false, .bool false], .agg #[.string ByteArray.empty, .string ByteArray.empty, .string ByteArray.empty, .int .i64 0, .string ByteArray.empty, .int .i64 0, .int .i64 0, .int .i64 0, .int .i64 0, .int .i64 0, .int .i64 0, .int .i64 0, .int .i64 0, .int .i64 0, .int .i64 0, .slice none 0 0, .string ByteArray.empty, .string ByteArray.empty, .string ByteArray.empty, .bool false, .bool false]], []⟩).memory Tryz.f3.params.toList Rows.urlTellsSpec.vars false (#[.string ByteArray.empty, .agg #[.string ByteArray.empty, .string ByteArray.empty, .string ByteArray.empty, .int .i64 0, .string ByteArray.empty, .int .i64 0, .int .i64 0, .int .i64 0, .int .i64 0, .int .i64 0, .int .i64 0, .int .i64 0, .int .i64 0, .int .i64 0, .int .i64 0, .slice none 0 0, .string ByteArray.empty, .string ByteArray.empty, .string ByteArray.empty, .bool false, .bool false], .agg #[.string ByteArray.empty, .string ByteArray.empty, .string ByteArray.empty, .int .i64 0, .string ByteArray.empty, .int .i64 0, .int .i64 0, .int .i64 0, .int .i64 0, .int .i64 0, .int .i64 0, .int .i64 0, .int .i64 0, .int .i64 0, .int .i64 0, .slice none 0 0, .string ByteArray.empty, .string ByteArray.empty, .string ByteArray.empty, .bool false, .bool false]] : Array Value).toList 8).map (fun x => (x.1, x.2.1)) = some ([.lit (.string []), .agg [.lit (.string []), .lit (.string []), .lit (.string []), .agg [.lit (.int .i64 0), .lit (.string []), .lit (.int .i64 0), .agg [.lit (.int .i64 0), .lit (.int .i64 0), .lit (.int .i64 0), .lit (.int .i64 0), .lit (.int .i64 0), .lit (.int .i64 0), .lit (.int .i64 0), .lit (.int .i64 0)]], .lit (.int .i64 0), .nil, .lit (.string []), .lit (.string []), .lit (.string []), .lit (.bool false), .lit (.bool false)], .agg [.lit (.string []), .lit (.string []), .lit (.string []), .agg [.lit (.int .i64 0), .lit (.string []), .lit (.int .i64 0), .agg [.lit (.int .i64 0), .lit (.int .i64 0), .lit (.int .i64 0), .lit (.int .i64 0), .lit (.int .i64 0), .lit (.int .i64 0), .lit (.int .i64 0), .lit (.int .i64 0)]], .lit (.int .i64 0), .nil, .lit (.string []), .lit (.string []), .lit (.string []), .lit (.bool false), .lit (.bool false)]], []) := by kernel_rfl
set_option maxRecDepth 100000 in
theorem lifted (os : Os) (started : os.Started) (H : Type) (enc : TypeId × Value → H) (F : Stop.Interp) :
    ReturnsInHanded {} Tryz.checked os 3 .any ((OpenSpec.ofChange Rows.urlTellsSpec).preRow enc Tryz.prog Tryz.f3 Rows.urlTellsRow.domain false Rows.urlTellsRow.laid) (((OpenSpec.ofChange Rows.urlTellsSpec).at F).post enc Tryz.prog Tryz.f3 false true false false) := by
  obtain ⟨⟨x1, x2, x3⟩, hx, hx1⟩ := Option.map_eq_some_iff.1 (reads os enc)
  simp only [Prod.mk.injEq] at hx1
  obtain ⟨rfl, rfl⟩ := hx1
  refine returnsInHanded_of_row (C := Tryz.checked) (s := OpenSpec.ofChange Rows.urlTellsSpec) own started (by kernel_rfl) Tryz.func3
    (witness_row_at (enc := enc) (C := Tryz.checked) false (Card.laidWorld os) #[.string ByteArray.empty, .agg #[.string ByteArray.empty, .string ByteArray.empty, .string ByteArray.empty, .int .i64 0, .string ByteArray.empty, .int .i64 0, .int .i64 0, .int .i64 0, .int .i64 0, .int .i64 0, .int .i64 0, .int .i64 0, .int .i64 0, .int .i64 0, .int .i64 0, .slice none 0 0, .string ByteArray.empty, .string ByteArray.empty, .string ByteArray.empty, .bool false, .bool false], .agg #[.string ByteArray.empty, .string ByteArray.empty, .string ByteArray.empty, .int .i64 0, .string ByteArray.empty, .int .i64 0, .int .i64 0, .int .i64 0, .int .i64 0, .int .i64 0, .int .i64 0, .int .i64 0, .int .i64 0, .int .i64 0, .int .i64 0, .slice none 0 0, .string ByteArray.empty, .string ByteArray.empty, .string ByteArray.empty, .bool false, .bool false]] rfl (by kernel_rfl) (by kernel_rfl) (by kernel_rfl)
      (OpenSpec.preRow_of_cond 8 hx (by kernel_rfl) (fun k hk => by cases hk) (by kernel_rfl) (Card.laid_met os _))) ?_
  intro W base args ds gs before hval0 hW _ _ _ hL hsh _
  obtain ⟨m, hmax⟩ := Card.maxLen_int hsh
  have hm : Six.At m W := ⟨hmax, Six.tab_of hL⟩
  have hval : ∀ (j : Nat) t v, Tryz.f3.params[j]? = some t → args[j]? = some v → Value.okWide Tryz.prog W .any base t v := hval0
  have hW' := hW
  obtain ⟨p, q, hA0, hV, rfl, hfz, hnd⟩ := hW
  have hA : DataW.TrodAll enc Tryz.prog W 0 (fun _ => true) true Tryz.f3.params.toList args.toList ds p := hA0
  rw [Tryz.params3] at hA hval
  obtain ⟨v0, vs0, d0, ds0, p0, q0, hargs0, rfl, rfl, t0, r0⟩ := trodAll_cons hA
  obtain ⟨v1, vs1, d1, ds1, p1, q1, hargs1, rfl, rfl, t1, r1⟩ := trodAll_cons r0
  obtain ⟨v2, vs2, d2, ds2, p2, q2, hargs2, rfl, rfl, t2, r2⟩ := trodAll_cons r1
  obtain ⟨rfl, rfl, rfl⟩ := trodAll_nil r2
  obtain rfl : args = #[v0, v1, v2] := by cases args; simp_all
  obtain ⟨rfl, rfl⟩ := trodVars_none hV
  obtain ⟨a0, rfl, rfl, rfl, w0⟩ := open_string Tryz.underlying9 (hval 0 9 v0 rfl rfl) t0
  have k1 := t1
  have lt1 : ∀ x ∈ p1, x.block < W.heap.size := by obtain ⟨m, hm⟩ := k1; exact DataW.trod_lt m _ _ _ hm
  obtain ⟨a1, pv1, l1, rfl, z1, w1⟩ := Url.open_url (hval 1 27 v1 rfl rfl) t1
  have k2 := t2
  have lt2 : ∀ x ∈ p2, x.block < W.heap.size := by obtain ⟨m, hm⟩ := k2; exact DataW.trod_lt m _ _ _ hm
  obtain ⟨a2, pv2, l2, rfl, z2, w2⟩ := Url.open_url (hval 2 27 v2 rfl rfl) t2
  clear hA0 hval0
  simp only [List.append_nil] at hW'
  refine (walk a0 a1 pv1 l1 a2 pv2 l2 w0 m W hm z1 w1 z2 w2).mono fun e W' ⟨he, bel⟩ => ?_
  subst he
  exact ⟨_, rfl, _, _, _, [], _, [], hW', trodAll_mk1 (shut_bool Tryz.underlying4 _), (trodAll_cons_mk (shut_string Tryz.underlying9 w0) (trodAll_cons_mk (Below.trod laidOut (by kernel_rfl) (of_decide_eq_true (by kernel_rfl)) k1 bel lt1) (trodAll_cons_mk (Below.trod laidOut (by kernel_rfl) (of_decide_eq_true (by kernel_rfl)) k2 bel lt2) trodAll_mk0))), rfl, bel.frame _, fun h => by cases h⟩

theorem said : Rows.urlTellsRow.holds Tryz.pinned (OpenSpec.ofChange Rows.urlTellsSpec) :=
  OpenClaim.holds_of_cond 3 Tryz.f3 rfl rfl rfl rfl rfl rfl rfl ⟨rfl, rfl, rfl, rfl, rfl⟩ rfl rfl rfl rfl rfl (by kernel_rfl) Tryz.func3 (by kernel_rfl)
    (of_decide_eq_true (by kernel_rfl)) (by unfold Func.isWrapper; first | (rw [if_pos (by decide +kernel)]; kernel_rfl) | (rw [if_neg (by decide +kernel)]; exact ⟨rfl, rfl⟩))
    (fun os started H enc _ F => by rw [OpenClaim.pre_eq_preRow]; exact lifted os started H enc F)

/-- No parameter wants a stand-in; the program's own looks are on. -/
theorem plain (f : FuncId) (fn : Func) (hf : Tryz.pinned.checked.prog.funcNamed Rows.urlTellsRow.func = some f) (hfn : Tryz.pinned.checked.prog.funcs[f]? = some fn) :
    true = Tryz.pinned.checked.prog.looks [] ∧ ∀ (j : Nat) t, fn.params[j]? = some t → Tryz.pinned.checked.prog.wantsStandIn t = false := by
  obtain rfl : f = 3 := Option.some.inj ((show Tryz.prog.funcNamed Rows.urlTellsRow.func = some 3 by kernel_rfl).symm.trans hf) |>.symm
  obtain rfl : fn = Tryz.f3 := (Option.some.inj (Tryz.func3.symm.trans hfn)).symm
  refine ⟨by kernel_rfl, fun j t ht => ?_⟩
  rw [Tryz.params3] at ht
  obtain rfl | rfl : t = 9 ∨ t = 27 := by simpa using Array.mem_of_getElem? ht
  · exact (show Tryz.prog.wantsStandIn 9 = false by kernel_rfl)
  · exact (show Tryz.prog.wantsStandIn 27 = false by kernel_rfl)

/-- The statement: the card. -/
theorem proved : Rows.UrlTellsCardSaid :=
  Claim7.holds_tied_plain_at .later [] _ _ _ _ said (fun _ h => by cases h) (by kernel_rfl) (fun _ h => by cases h) urlTells_row_tie rfl ⟨rfl, rfl⟩ (by kernel_rfl) rfl plain (by kernel_rfl)
#print axioms proved
end Go.Proofs.YtkjkcgbmfglihaaGreatDoor.urlTells
