/-
  WHAT IS PROVED: the card of ReferDown: of any policy, and any two addresses whose parts are few and short: one goes down just from what is to be trusted to what is not; then they have not one origin, and by the usual policy, and the others that say so, nothing may be told.
  CONDITIONS: none but the card's own: the listed tables read as their texts lay them; the policy and the addresses are any.
-/
import Derived.Test.YtbmnhmbicefemaaGreatDoorCards
import Derived.Test.YtbmnhmbicefemaaGreatDoorTie
import Derived.WalkKit
import Derived.ProofKit
import Derived.OpenShut
import Derived.ShutString
import Derived.ChangeOld
import Derived.Below
import Derived.Deep.RegionHeld
import Derived.Laws.AppendOwnNone
import Derived.Test.YtbmnhmbicefemaaGreatDoorRfAwake
import Derived.Test.YtbmnhmbicefemaaGreatDoorLaid
import Derived.Test.YtbmnhmbicefemaaGreatDoorHOpen
namespace Go.Proofs.YtbmnhmbicefemaaGreatDoor.referDown
open Go.ChangeShapes Go.WideShapes Go.ChangeAt Go.RowKit
open Go.ChangeMaps (open_string shut_string)
open Go.Shelf
open Go.Proofs.YtbmnhmbicefemaaGreatDoor.Url
open Go.Proofs.YtbmnhmbicefemaaGreatDoor.Host (H)
open Go.Proofs.YtbmnhmbicefemaaGreatDoor.Path (Strs)
set_option linter.unusedSimpArgs false
set_option linter.unusedVariables false

theorem own : ownKnob Tryz.prog.godebug = none := by kernel_rfl
theorem laidOut : laidOutB Tryz.prog = true := by kernel_rfl

open Go.Proofs.YtbmnhmbicefemaaGreatDoor.Show
open Go.Proofs.YtbmnhmbicefemaaGreatDoor.Origin
set_option maxRecDepth 100000
set_option maxHeartbeats 16000000 in
theorem walk (a0 : Int) (a1 : U) (v1 : Value) (l1 : a1.h.p.length = 8) (a2 : U) (v2 : Value) (l2 : a2.h.p.length = 8) (w0 : (Lit.int .i64 a0).wf = true) (m : Int) (w : World) (hm : Six.At m w) (hT : Policy.TabAt w) (s1 : Path.Strs w v1 a1.path) (p1 : (Lit.int .i64 a1.port).wf = true) (s2 : Path.Strs w v2 a2.path) (p2 : (Lit.int .i64 a2.port).wf = true) :
    Calls Tryz.prog 7 #[.int .i64 a0, .agg (cU a1 v1), .agg (cU a2 v2)] w fun e w' => e = .returned (.bool true) ∧ Below w.heap.size w w' := by
  have e1 : (w.alloc (.cells (cU a1 v1) 27)).heap.size = w.heap.size + 1 := Array.size_push _
  have b1 : Below w.heap.size w (w.alloc (.cells (cU a1 v1) 27)) := (Below.refl w.heap.size w).alloc (Nat.le_refl _) _
  have b2 : Below w.heap.size w ((w.alloc (.cells (cU a1 v1) 27)).alloc (.cells (cU a2 v2) 27)) := b1.alloc (by omega) _
  have HX := Lib.hid b2
  have HU0 := Lib.hid ((UrlAt.new w a1 v1).past (.cells (cU a2 v2) 27))
  have HV0 := Lib.hid (show UrlAt ((w.alloc (.cells (cU a1 v1) 27)).alloc (.cells (cU a2 v2) 27)) (w.heap.size + 1) a2 v2 from by rw [← e1]; exact UrlAt.new (w.alloc (.cells (cU a1 v1) 27)) a2 v2)
  have HM0 := Lib.hid (hm.later HX.out)
  have HS0 := Lib.hid (s1.later HX.out)
  have HT0 := Lib.hid (s2.later HX.out)
  have HP0 := Lib.hid (hT.later HX.out)
  clear hm hT e1 b1 b2 s1 s2
  go_enter Tryz.func7, Tryz.ntmps7
  go_wp2_with fail
  generalize ((w.alloc (.cells (cU a1 v1) 27)).alloc (.cells (cU a2 v2) 27)) = X0 at HX HM0 HP0 HU0 HV0 HS0 HT0 ⊢
  refine (Refer.awake_calls m X0 HM0.out HP0.out).mono ?_
  rintro e X1 ⟨rfl, hB⟩
  have HB1 := Lib.hid (hB)
  have HU1 := Lib.hid (HU0.out.later hB)
  have HV1 := Lib.hid (HV0.out.later hB)
  have HM1 := Lib.hid (HM0.out.later hB)
  have HP1 := Lib.hid (HP0.out.later hB)
  have HS1 := Lib.hid (HS0.out.later hB)
  have HT1 := Lib.hid (HT0.out.later hB)
  clear HU0 HV0 HM0 HP0 HS0 HT0
  clear hB
  obtain ⟨f1, hf1⟩ : ∃ b, fewU a1 = b := ⟨_, rfl⟩
  have hu := HU1.out
  go_wp2_with ((with_reducible refine wp_load27 (o := ⟨some 14, .load 27 (.tmp 4), _, _, _, _⟩) ?_ (.tmp 4) ?_ w.heap.size ?_ a1 v1 l1 hu ?_); (· rfl); (· rfl); (· rfl); simp only [Act.put, List.setIfInBounds_toArray, List.set_cons_zero, List.set_cons_succ])
  refine (few_any a1 v1 l1 f1 hf1 _ HS1.out).mono ?_
  rintro e X2 ⟨rfl, hB⟩
  have HB2 := Lib.hid (below_trans HB1.out hB)
  have HU2 := Lib.hid (HU1.out.later hB)
  have HV2 := Lib.hid (HV1.out.later hB)
  have HM2 := Lib.hid (HM1.out.later hB)
  have HP2 := Lib.hid (HP1.out.later hB)
  have HS2 := Lib.hid (HS1.out.later hB)
  have HT2 := Lib.hid (HT1.out.later hB)
  clear HB1 HU1 HV1 HM1 HP1 HS1 HT1
  clear hB hu
  obtain ⟨f2, hf2⟩ : ∃ b, fewU a2 = b := ⟨_, rfl⟩
  have hu := HV2.out
  go_wp2_with ((with_reducible refine wp_load27 (o := ⟨some 16, .load 27 (.tmp 5), _, _, _, _⟩) ?_ (.tmp 5) ?_ (w.heap.size + 1) ?_ a2 v2 l2 hu ?_); (· rfl); (· rfl); (· rfl); simp only [Act.put, List.setIfInBounds_toArray, List.set_cons_zero, List.set_cons_succ])
  refine (few_any a2 v2 l2 f2 hf2 _ HT2.out).mono ?_
  rintro e X3 ⟨rfl, hB⟩
  have HB3 := Lib.hid (below_trans HB2.out hB)
  have HU3 := Lib.hid (HU2.out.later hB)
  have HV3 := Lib.hid (HV2.out.later hB)
  have HM3 := Lib.hid (HM2.out.later hB)
  have HP3 := Lib.hid (HP2.out.later hB)
  have HS3 := Lib.hid (HS2.out.later hB)
  have HT3 := Lib.hid (HT2.out.later hB)
  clear HB2 HU2 HV2 HM2 HP2 HS2 HT2
  clear hB hu
  cases f1
  · go_wp2
    go_ret
    exact ⟨rfl, HX.out.trans (HB3.out.mono HX.out.size)⟩
  cases f2
  · go_wp2
    go_ret
    exact ⟨rfl, HX.out.trans (HB3.out.mono HX.out.size)⟩
  have F1 := few_fit a1 l1 hf1
  have F2 := few_fit a2 l2 hf2
  obtain ⟨b, hb⟩ : ∃ b, Refer.downU a1 a2 = b := ⟨_, rfl⟩
  obtain ⟨n, hn⟩ : ∃ n, Refer.levelU a0 a1 a2 = n := ⟨_, rfl⟩
  obtain ⟨x, hx⟩ : ∃ b, Origin.trustU a1 = b := ⟨_, rfl⟩
  obtain ⟨y, hy⟩ : ∃ b, Origin.trustU a2 = b := ⟨_, rfl⟩
  obtain ⟨c, hc⟩ : ∃ b, Origin.bothU a1 a2 = b := ⟨_, rfl⟩
  have hxy : b = (x && !y) := by rw [← hb, ← hx, ← hy]; rfl
  have HXY := Lib.hid hxy
  have HC := Lib.hid (show b = true → c = false from fun h => hc.symm.trans (Refer.down_both (hb.trans h)))
  have HQ := Lib.hid (show b = true → (a0 = 0 ∨ a0 = 5 ∨ a0 = 7 ∨ a0 = 2) → n = 0 from fun h k => hn.symm.trans (Refer.down_quiet k (hb.trans h)))
  have CD := Lib.hid (fun z hm hs ht => Refer.down_any a1 a2 v1 v2 F1 F2 b hb m z hm hs ht)
  have CL := Lib.hid (fun z hm hs ht hT => Refer.level_any a0 a1 a2 v1 v2 F1 F2 n hn m z hm hs ht hT)
  have C1 := Lib.hid (fun z hm hs => trust_any a1 v1 F1 x hx m z hm hs)
  have C2 := Lib.hid (fun z hm hs => trust_any a2 v2 F2 y hy m z hm hs)
  have CB := Lib.hid (fun z hm hs ht => both_any a1 a2 v1 v2 F1 F2 c hc m z hm hs ht)
  clear hf1 hf2 F1 F2 hb hn hx hy hc hxy
  have hu := HU3.out
  have hv := HV3.out
  go_wp2_with (first | ((with_reducible refine wp_load27 (o := ⟨some 29, .load 27 (.tmp 4), _, _, _, _⟩) ?_ (.tmp 4) ?_ w.heap.size ?_ a1 v1 l1 hu ?_); (· rfl); (· rfl); (· rfl); simp only [Act.put, List.setIfInBounds_toArray, List.set_cons_zero, List.set_cons_succ]) | ((with_reducible refine wp_load27 (o := ⟨some 30, .load 27 (.tmp 5), _, _, _, _⟩) ?_ (.tmp 5) ?_ (w.heap.size + 1) ?_ a2 v2 l2 hv ?_); (· rfl); (· rfl); (· rfl); simp only [Act.put, List.setIfInBounds_toArray, List.set_cons_zero, List.set_cons_succ]))
  refine (CD.out _ HM3.out HS3.out HT3.out).mono ?_
  rintro e X4 ⟨rfl, hB⟩
  have HB4 := Lib.hid (below_trans HB3.out hB)
  have HU4 := Lib.hid (HU3.out.later hB)
  have HV4 := Lib.hid (HV3.out.later hB)
  have HM4 := Lib.hid (HM3.out.later hB)
  have HP4 := Lib.hid (HP3.out.later hB)
  have HS4 := Lib.hid (HS3.out.later hB)
  have HT4 := Lib.hid (HT3.out.later hB)
  clear HB3 HU3 HV3 HM3 HP3 HS3 HT3
  clear hB hu hv CD
  by_cases h0 : a0 = 0
  · subst h0
    have hu := HU4.out
    have hv := HV4.out
    go_wp2_with (first | ((with_reducible refine wp_load27 (o := ⟨some 47, .load 27 (.tmp 4), _, _, _, _⟩) ?_ (.tmp 4) ?_ w.heap.size ?_ a1 v1 l1 hu ?_); (· rfl); (· rfl); (· rfl); simp only [Act.put, List.setIfInBounds_toArray, List.set_cons_zero, List.set_cons_succ]) | ((with_reducible refine wp_load27 (o := ⟨some 48, .load 27 (.tmp 5), _, _, _, _⟩) ?_ (.tmp 5) ?_ (w.heap.size + 1) ?_ a2 v2 l2 hv ?_); (· rfl); (· rfl); (· rfl); simp only [Act.put, List.setIfInBounds_toArray, List.set_cons_zero, List.set_cons_succ]))
    refine (CL.out _ HM4.out HS4.out HT4.out HP4.out).mono ?_
    rintro e X5 ⟨rfl, hB⟩
    have HB5 := Lib.hid (below_trans HB4.out hB)
    have HU5 := Lib.hid (HU4.out.later hB)
    have HV5 := Lib.hid (HV4.out.later hB)
    have HM5 := Lib.hid (HM4.out.later hB)
    have HP5 := Lib.hid (HP4.out.later hB)
    have HS5 := Lib.hid (HS4.out.later hB)
    have HT5 := Lib.hid (HT4.out.later hB)
    clear HB4 HU4 HV4 HM4 HP4 HS4 HT4
    clear hB hu hv CL
    have hu := HU5.out
    go_wp2_with ((with_reducible refine wp_load27 (o := ⟨some 51, .load 27 (.tmp 4), _, _, _, _⟩) ?_ (.tmp 4) ?_ w.heap.size ?_ a1 v1 l1 hu ?_); (· rfl); (· rfl); (· rfl); simp only [Act.put, List.setIfInBounds_toArray, List.set_cons_zero, List.set_cons_succ])
    refine (C1.out _ HM5.out HS5.out).mono ?_
    rintro e X6 ⟨rfl, hB⟩
    have HB6 := Lib.hid (below_trans HB5.out hB)
    have HU6 := Lib.hid (HU5.out.later hB)
    have HV6 := Lib.hid (HV5.out.later hB)
    have HM6 := Lib.hid (HM5.out.later hB)
    have HP6 := Lib.hid (HP5.out.later hB)
    have HS6 := Lib.hid (HS5.out.later hB)
    have HT6 := Lib.hid (HT5.out.later hB)
    clear HB5 HU5 HV5 HM5 HP5 HS5 HT5
    clear hB hu C1
    cases x
    · obtain rfl : b = false := HXY.out
      clear HXY HC HQ
      go_wp2
      go_ret
      exact ⟨rfl, HX.out.trans (HB6.out.mono HX.out.size)⟩
    · have hv := HV6.out
      go_wp2_with ((with_reducible refine wp_load27 (o := ⟨some 54, .load 27 (.tmp 5), _, _, _, _⟩) ?_ (.tmp 5) ?_ (w.heap.size + 1) ?_ a2 v2 l2 hv ?_); (· rfl); (· rfl); (· rfl); simp only [Act.put, List.setIfInBounds_toArray, List.set_cons_zero, List.set_cons_succ])
      refine (C2.out _ HM6.out HT6.out).mono ?_
      rintro e X7 ⟨rfl, hB⟩
      have HB7 := Lib.hid (below_trans HB6.out hB)
      have HU7 := Lib.hid (HU6.out.later hB)
      have HV7 := Lib.hid (HV6.out.later hB)
      have HM7 := Lib.hid (HM6.out.later hB)
      have HP7 := Lib.hid (HP6.out.later hB)
      have HS7 := Lib.hid (HS6.out.later hB)
      have HT7 := Lib.hid (HT6.out.later hB)
      clear HB6 HU6 HV6 HM6 HP6 HS6 HT6
      clear hB hv C2
      cases y
      · obtain rfl : b = true := HXY.out
        obtain rfl : c = false := HC.out (by first | rfl | trivial)
        obtain rfl : n = 0 := HQ.out (by first | rfl | trivial) (by simp)
        clear HXY HC HQ
        have hu := HU7.out
        have hv := HV7.out
        go_wp2_with (first | ((with_reducible refine wp_load27 (o := ⟨some 75, .load 27 (.tmp 4), _, _, _, _⟩) ?_ (.tmp 4) ?_ w.heap.size ?_ a1 v1 l1 hu ?_); (· rfl); (· rfl); (· rfl); simp only [Act.put, List.setIfInBounds_toArray, List.set_cons_zero, List.set_cons_succ]) | ((with_reducible refine wp_load27 (o := ⟨some 76, .load 27 (.tmp 5), _, _, _, _⟩) ?_ (.tmp 5) ?_ (w.heap.size + 1) ?_ a2 v2 l2 hv ?_); (· rfl); (· rfl); (· rfl); simp only [Act.put, List.setIfInBounds_toArray, List.set_cons_zero, List.set_cons_succ]))
        refine (CB.out _ HM7.out HS7.out HT7.out).mono ?_
        rintro e X8 ⟨rfl, hB⟩
        have HB8 := Lib.hid (below_trans HB7.out hB)
        have HU8 := Lib.hid (HU7.out.later hB)
        have HV8 := Lib.hid (HV7.out.later hB)
        have HM8 := Lib.hid (HM7.out.later hB)
        have HP8 := Lib.hid (HP7.out.later hB)
        have HS8 := Lib.hid (HS7.out.later hB)
        have HT8 := Lib.hid (HT7.out.later hB)
        clear HB7 HU7 HV7 HM7 HP7 HS7 HT7
        clear hB hu hv CB
        go_wp2
        go_ret
        exact ⟨rfl, HX.out.trans (HB8.out.mono HX.out.size)⟩
      · obtain rfl : b = false := HXY.out
        clear HXY HC HQ
        go_wp2
        go_ret
        exact ⟨rfl, HX.out.trans (HB7.out.mono HX.out.size)⟩
  · have r0 : (a0 == 0) = false := beq_eq_false_iff_ne.2 h0
    by_cases h1 : a0 = 5
    · subst h1
      have hu := HU4.out
      have hv := HV4.out
      go_wp2_with (first | ((with_reducible refine wp_load27 (o := ⟨some 47, .load 27 (.tmp 4), _, _, _, _⟩) ?_ (.tmp 4) ?_ w.heap.size ?_ a1 v1 l1 hu ?_); (· rfl); (· rfl); (· rfl); simp only [Act.put, List.setIfInBounds_toArray, List.set_cons_zero, List.set_cons_succ]) | ((with_reducible refine wp_load27 (o := ⟨some 48, .load 27 (.tmp 5), _, _, _, _⟩) ?_ (.tmp 5) ?_ (w.heap.size + 1) ?_ a2 v2 l2 hv ?_); (· rfl); (· rfl); (· rfl); simp only [Act.put, List.setIfInBounds_toArray, List.set_cons_zero, List.set_cons_succ]))
      refine (CL.out _ HM4.out HS4.out HT4.out HP4.out).mono ?_
      rintro e X5 ⟨rfl, hB⟩
      have HB5 := Lib.hid (below_trans HB4.out hB)
      have HU5 := Lib.hid (HU4.out.later hB)
      have HV5 := Lib.hid (HV4.out.later hB)
      have HM5 := Lib.hid (HM4.out.later hB)
      have HP5 := Lib.hid (HP4.out.later hB)
      have HS5 := Lib.hid (HS4.out.later hB)
      have HT5 := Lib.hid (HT4.out.later hB)
      clear HB4 HU4 HV4 HM4 HP4 HS4 HT4
      clear hB hu hv CL
      have hu := HU5.out
      go_wp2_with ((with_reducible refine wp_load27 (o := ⟨some 51, .load 27 (.tmp 4), _, _, _, _⟩) ?_ (.tmp 4) ?_ w.heap.size ?_ a1 v1 l1 hu ?_); (· rfl); (· rfl); (· rfl); simp only [Act.put, List.setIfInBounds_toArray, List.set_cons_zero, List.set_cons_succ])
      refine (C1.out _ HM5.out HS5.out).mono ?_
      rintro e X6 ⟨rfl, hB⟩
      have HB6 := Lib.hid (below_trans HB5.out hB)
      have HU6 := Lib.hid (HU5.out.later hB)
      have HV6 := Lib.hid (HV5.out.later hB)
      have HM6 := Lib.hid (HM5.out.later hB)
      have HP6 := Lib.hid (HP5.out.later hB)
      have HS6 := Lib.hid (HS5.out.later hB)
      have HT6 := Lib.hid (HT5.out.later hB)
      clear HB5 HU5 HV5 HM5 HP5 HS5 HT5
      clear hB hu C1
      cases x
      · obtain rfl : b = false := HXY.out
        clear HXY HC HQ
        go_wp2
        go_ret
        exact ⟨rfl, HX.out.trans (HB6.out.mono HX.out.size)⟩
      · have hv := HV6.out
        go_wp2_with ((with_reducible refine wp_load27 (o := ⟨some 54, .load 27 (.tmp 5), _, _, _, _⟩) ?_ (.tmp 5) ?_ (w.heap.size + 1) ?_ a2 v2 l2 hv ?_); (· rfl); (· rfl); (· rfl); simp only [Act.put, List.setIfInBounds_toArray, List.set_cons_zero, List.set_cons_succ])
        refine (C2.out _ HM6.out HT6.out).mono ?_
        rintro e X7 ⟨rfl, hB⟩
        have HB7 := Lib.hid (below_trans HB6.out hB)
        have HU7 := Lib.hid (HU6.out.later hB)
        have HV7 := Lib.hid (HV6.out.later hB)
        have HM7 := Lib.hid (HM6.out.later hB)
        have HP7 := Lib.hid (HP6.out.later hB)
        have HS7 := Lib.hid (HS6.out.later hB)
        have HT7 := Lib.hid (HT6.out.later hB)
        clear HB6 HU6 HV6 HM6 HP6 HS6 HT6
        clear hB hv C2
        cases y
        · obtain rfl : b = true := HXY.out
          obtain rfl : c = false := HC.out (by first | rfl | trivial)
          obtain rfl : n = 0 := HQ.out (by first | rfl | trivial) (by simp)
          clear HXY HC HQ
          have hu := HU7.out
          have hv := HV7.out
          go_wp2_with (first | ((with_reducible refine wp_load27 (o := ⟨some 75, .load 27 (.tmp 4), _, _, _, _⟩) ?_ (.tmp 4) ?_ w.heap.size ?_ a1 v1 l1 hu ?_); (· rfl); (· rfl); (· rfl); simp only [Act.put, List.setIfInBounds_toArray, List.set_cons_zero, List.set_cons_succ]) | ((with_reducible refine wp_load27 (o := ⟨some 76, .load 27 (.tmp 5), _, _, _, _⟩) ?_ (.tmp 5) ?_ (w.heap.size + 1) ?_ a2 v2 l2 hv ?_); (· rfl); (· rfl); (· rfl); simp only [Act.put, List.setIfInBounds_toArray, List.set_cons_zero, List.set_cons_succ]))
          refine (CB.out _ HM7.out HS7.out HT7.out).mono ?_
          rintro e X8 ⟨rfl, hB⟩
          have HB8 := Lib.hid (below_trans HB7.out hB)
          have HU8 := Lib.hid (HU7.out.later hB)
          have HV8 := Lib.hid (HV7.out.later hB)
          have HM8 := Lib.hid (HM7.out.later hB)
          have HP8 := Lib.hid (HP7.out.later hB)
          have HS8 := Lib.hid (HS7.out.later hB)
          have HT8 := Lib.hid (HT7.out.later hB)
          clear HB7 HU7 HV7 HM7 HP7 HS7 HT7
          clear hB hu hv CB
          go_wp2
          go_ret
          exact ⟨rfl, HX.out.trans (HB8.out.mono HX.out.size)⟩
        · obtain rfl : b = false := HXY.out
          clear HXY HC HQ
          go_wp2
          go_ret
          exact ⟨rfl, HX.out.trans (HB7.out.mono HX.out.size)⟩
    · have r1 : (a0 == 5) = false := beq_eq_false_iff_ne.2 h1
      by_cases h2 : a0 = 7
      · subst h2
        have hu := HU4.out
        have hv := HV4.out
        go_wp2_with (first | ((with_reducible refine wp_load27 (o := ⟨some 47, .load 27 (.tmp 4), _, _, _, _⟩) ?_ (.tmp 4) ?_ w.heap.size ?_ a1 v1 l1 hu ?_); (· rfl); (· rfl); (· rfl); simp only [Act.put, List.setIfInBounds_toArray, List.set_cons_zero, List.set_cons_succ]) | ((with_reducible refine wp_load27 (o := ⟨some 48, .load 27 (.tmp 5), _, _, _, _⟩) ?_ (.tmp 5) ?_ (w.heap.size + 1) ?_ a2 v2 l2 hv ?_); (· rfl); (· rfl); (· rfl); simp only [Act.put, List.setIfInBounds_toArray, List.set_cons_zero, List.set_cons_succ]))
        refine (CL.out _ HM4.out HS4.out HT4.out HP4.out).mono ?_
        rintro e X5 ⟨rfl, hB⟩
        have HB5 := Lib.hid (below_trans HB4.out hB)
        have HU5 := Lib.hid (HU4.out.later hB)
        have HV5 := Lib.hid (HV4.out.later hB)
        have HM5 := Lib.hid (HM4.out.later hB)
        have HP5 := Lib.hid (HP4.out.later hB)
        have HS5 := Lib.hid (HS4.out.later hB)
        have HT5 := Lib.hid (HT4.out.later hB)
        clear HB4 HU4 HV4 HM4 HP4 HS4 HT4
        clear hB hu hv CL
        have hu := HU5.out
        go_wp2_with ((with_reducible refine wp_load27 (o := ⟨some 51, .load 27 (.tmp 4), _, _, _, _⟩) ?_ (.tmp 4) ?_ w.heap.size ?_ a1 v1 l1 hu ?_); (· rfl); (· rfl); (· rfl); simp only [Act.put, List.setIfInBounds_toArray, List.set_cons_zero, List.set_cons_succ])
        refine (C1.out _ HM5.out HS5.out).mono ?_
        rintro e X6 ⟨rfl, hB⟩
        have HB6 := Lib.hid (below_trans HB5.out hB)
        have HU6 := Lib.hid (HU5.out.later hB)
        have HV6 := Lib.hid (HV5.out.later hB)
        have HM6 := Lib.hid (HM5.out.later hB)
        have HP6 := Lib.hid (HP5.out.later hB)
        have HS6 := Lib.hid (HS5.out.later hB)
        have HT6 := Lib.hid (HT5.out.later hB)
        clear HB5 HU5 HV5 HM5 HP5 HS5 HT5
        clear hB hu C1
        cases x
        · obtain rfl : b = false := HXY.out
          clear HXY HC HQ
          go_wp2
          go_ret
          exact ⟨rfl, HX.out.trans (HB6.out.mono HX.out.size)⟩
        · have hv := HV6.out
          go_wp2_with ((with_reducible refine wp_load27 (o := ⟨some 54, .load 27 (.tmp 5), _, _, _, _⟩) ?_ (.tmp 5) ?_ (w.heap.size + 1) ?_ a2 v2 l2 hv ?_); (· rfl); (· rfl); (· rfl); simp only [Act.put, List.setIfInBounds_toArray, List.set_cons_zero, List.set_cons_succ])
          refine (C2.out _ HM6.out HT6.out).mono ?_
          rintro e X7 ⟨rfl, hB⟩
          have HB7 := Lib.hid (below_trans HB6.out hB)
          have HU7 := Lib.hid (HU6.out.later hB)
          have HV7 := Lib.hid (HV6.out.later hB)
          have HM7 := Lib.hid (HM6.out.later hB)
          have HP7 := Lib.hid (HP6.out.later hB)
          have HS7 := Lib.hid (HS6.out.later hB)
          have HT7 := Lib.hid (HT6.out.later hB)
          clear HB6 HU6 HV6 HM6 HP6 HS6 HT6
          clear hB hv C2
          cases y
          · obtain rfl : b = true := HXY.out
            obtain rfl : c = false := HC.out (by first | rfl | trivial)
            obtain rfl : n = 0 := HQ.out (by first | rfl | trivial) (by simp)
            clear HXY HC HQ
            have hu := HU7.out
            have hv := HV7.out
            go_wp2_with (first | ((with_reducible refine wp_load27 (o := ⟨some 75, .load 27 (.tmp 4), _, _, _, _⟩) ?_ (.tmp 4) ?_ w.heap.size ?_ a1 v1 l1 hu ?_); (· rfl); (· rfl); (· rfl); simp only [Act.put, List.setIfInBounds_toArray, List.set_cons_zero, List.set_cons_succ]) | ((with_reducible refine wp_load27 (o := ⟨some 76, .load 27 (.tmp 5), _, _, _, _⟩) ?_ (.tmp 5) ?_ (w.heap.size + 1) ?_ a2 v2 l2 hv ?_); (· rfl); (· rfl); (· rfl); simp only [Act.put, List.setIfInBounds_toArray, List.set_cons_zero, List.set_cons_succ]))
            refine (CB.out _ HM7.out HS7.out HT7.out).mono ?_
            rintro e X8 ⟨rfl, hB⟩
            have HB8 := Lib.hid (below_trans HB7.out hB)
            have HU8 := Lib.hid (HU7.out.later hB)
            have HV8 := Lib.hid (HV7.out.later hB)
            have HM8 := Lib.hid (HM7.out.later hB)
            have HP8 := Lib.hid (HP7.out.later hB)
            have HS8 := Lib.hid (HS7.out.later hB)
            have HT8 := Lib.hid (HT7.out.later hB)
            clear HB7 HU7 HV7 HM7 HP7 HS7 HT7
            clear hB hu hv CB
            go_wp2
            go_ret
            exact ⟨rfl, HX.out.trans (HB8.out.mono HX.out.size)⟩
          · obtain rfl : b = false := HXY.out
            clear HXY HC HQ
            go_wp2
            go_ret
            exact ⟨rfl, HX.out.trans (HB7.out.mono HX.out.size)⟩
      · have r2 : (a0 == 7) = false := beq_eq_false_iff_ne.2 h2
        by_cases h3 : a0 = 2
        · subst h3
          have hu := HU4.out
          have hv := HV4.out
          go_wp2_with (first | ((with_reducible refine wp_load27 (o := ⟨some 47, .load 27 (.tmp 4), _, _, _, _⟩) ?_ (.tmp 4) ?_ w.heap.size ?_ a1 v1 l1 hu ?_); (· rfl); (· rfl); (· rfl); simp only [Act.put, List.setIfInBounds_toArray, List.set_cons_zero, List.set_cons_succ]) | ((with_reducible refine wp_load27 (o := ⟨some 48, .load 27 (.tmp 5), _, _, _, _⟩) ?_ (.tmp 5) ?_ (w.heap.size + 1) ?_ a2 v2 l2 hv ?_); (· rfl); (· rfl); (· rfl); simp only [Act.put, List.setIfInBounds_toArray, List.set_cons_zero, List.set_cons_succ]))
          refine (CL.out _ HM4.out HS4.out HT4.out HP4.out).mono ?_
          rintro e X5 ⟨rfl, hB⟩
          have HB5 := Lib.hid (below_trans HB4.out hB)
          have HU5 := Lib.hid (HU4.out.later hB)
          have HV5 := Lib.hid (HV4.out.later hB)
          have HM5 := Lib.hid (HM4.out.later hB)
          have HP5 := Lib.hid (HP4.out.later hB)
          have HS5 := Lib.hid (HS4.out.later hB)
          have HT5 := Lib.hid (HT4.out.later hB)
          clear HB4 HU4 HV4 HM4 HP4 HS4 HT4
          clear hB hu hv CL
          have hu := HU5.out
          go_wp2_with ((with_reducible refine wp_load27 (o := ⟨some 51, .load 27 (.tmp 4), _, _, _, _⟩) ?_ (.tmp 4) ?_ w.heap.size ?_ a1 v1 l1 hu ?_); (· rfl); (· rfl); (· rfl); simp only [Act.put, List.setIfInBounds_toArray, List.set_cons_zero, List.set_cons_succ])
          refine (C1.out _ HM5.out HS5.out).mono ?_
          rintro e X6 ⟨rfl, hB⟩
          have HB6 := Lib.hid (below_trans HB5.out hB)
          have HU6 := Lib.hid (HU5.out.later hB)
          have HV6 := Lib.hid (HV5.out.later hB)
          have HM6 := Lib.hid (HM5.out.later hB)
          have HP6 := Lib.hid (HP5.out.later hB)
          have HS6 := Lib.hid (HS5.out.later hB)
          have HT6 := Lib.hid (HT5.out.later hB)
          clear HB5 HU5 HV5 HM5 HP5 HS5 HT5
          clear hB hu C1
          cases x
          · obtain rfl : b = false := HXY.out
            clear HXY HC HQ
            go_wp2
            go_ret
            exact ⟨rfl, HX.out.trans (HB6.out.mono HX.out.size)⟩
          · have hv := HV6.out
            go_wp2_with ((with_reducible refine wp_load27 (o := ⟨some 54, .load 27 (.tmp 5), _, _, _, _⟩) ?_ (.tmp 5) ?_ (w.heap.size + 1) ?_ a2 v2 l2 hv ?_); (· rfl); (· rfl); (· rfl); simp only [Act.put, List.setIfInBounds_toArray, List.set_cons_zero, List.set_cons_succ])
            refine (C2.out _ HM6.out HT6.out).mono ?_
            rintro e X7 ⟨rfl, hB⟩
            have HB7 := Lib.hid (below_trans HB6.out hB)
            have HU7 := Lib.hid (HU6.out.later hB)
            have HV7 := Lib.hid (HV6.out.later hB)
            have HM7 := Lib.hid (HM6.out.later hB)
            have HP7 := Lib.hid (HP6.out.later hB)
            have HS7 := Lib.hid (HS6.out.later hB)
            have HT7 := Lib.hid (HT6.out.later hB)
            clear HB6 HU6 HV6 HM6 HP6 HS6 HT6
            clear hB hv C2
            cases y
            · obtain rfl : b = true := HXY.out
              obtain rfl : c = false := HC.out (by first | rfl | trivial)
              obtain rfl : n = 0 := HQ.out (by first | rfl | trivial) (by simp)
              clear HXY HC HQ
              have hu := HU7.out
              have hv := HV7.out
              go_wp2_with (first | ((with_reducible refine wp_load27 (o := ⟨some 75, .load 27 (.tmp 4), _, _, _, _⟩) ?_ (.tmp 4) ?_ w.heap.size ?_ a1 v1 l1 hu ?_); (· rfl); (· rfl); (· rfl); simp only [Act.put, List.setIfInBounds_toArray, List.set_cons_zero, List.set_cons_succ]) | ((with_reducible refine wp_load27 (o := ⟨some 76, .load 27 (.tmp 5), _, _, _, _⟩) ?_ (.tmp 5) ?_ (w.heap.size + 1) ?_ a2 v2 l2 hv ?_); (· rfl); (· rfl); (· rfl); simp only [Act.put, List.setIfInBounds_toArray, List.set_cons_zero, List.set_cons_succ]))
              refine (CB.out _ HM7.out HS7.out HT7.out).mono ?_
              rintro e X8 ⟨rfl, hB⟩
              have HB8 := Lib.hid (below_trans HB7.out hB)
              have HU8 := Lib.hid (HU7.out.later hB)
              have HV8 := Lib.hid (HV7.out.later hB)
              have HM8 := Lib.hid (HM7.out.later hB)
              have HP8 := Lib.hid (HP7.out.later hB)
              have HS8 := Lib.hid (HS7.out.later hB)
              have HT8 := Lib.hid (HT7.out.later hB)
              clear HB7 HU7 HV7 HM7 HP7 HS7 HT7
              clear hB hu hv CB
              go_wp2
              go_ret
              exact ⟨rfl, HX.out.trans (HB8.out.mono HX.out.size)⟩
            · obtain rfl : b = false := HXY.out
              clear HXY HC HQ
              go_wp2
              go_ret
              exact ⟨rfl, HX.out.trans (HB7.out.mono HX.out.size)⟩
        · have r3 : (a0 == 2) = false := beq_eq_false_iff_ne.2 h3
          have hu := HU4.out
          have hv := HV4.out
          go_wp2_with (first | ((with_reducible refine wp_load27 (o := ⟨some 47, .load 27 (.tmp 4), _, _, _, _⟩) ?_ (.tmp 4) ?_ w.heap.size ?_ a1 v1 l1 hu ?_); (· rfl); (· rfl); (· rfl); simp only [Act.put, List.setIfInBounds_toArray, List.set_cons_zero, List.set_cons_succ]) | ((with_reducible refine wp_load27 (o := ⟨some 48, .load 27 (.tmp 5), _, _, _, _⟩) ?_ (.tmp 5) ?_ (w.heap.size + 1) ?_ a2 v2 l2 hv ?_); (· rfl); (· rfl); (· rfl); simp only [Act.put, List.setIfInBounds_toArray, List.set_cons_zero, List.set_cons_succ]))
          refine (CL.out _ HM4.out HS4.out HT4.out HP4.out).mono ?_
          rintro e X5 ⟨rfl, hB⟩
          have HB5 := Lib.hid (below_trans HB4.out hB)
          have HU5 := Lib.hid (HU4.out.later hB)
          have HV5 := Lib.hid (HV4.out.later hB)
          have HM5 := Lib.hid (HM4.out.later hB)
          have HP5 := Lib.hid (HP4.out.later hB)
          have HS5 := Lib.hid (HS4.out.later hB)
          have HT5 := Lib.hid (HT4.out.later hB)
          clear HB4 HU4 HV4 HM4 HP4 HS4 HT4
          clear hB hu hv CL
          have hu := HU5.out
          go_wp2_with ((with_reducible refine wp_load27 (o := ⟨some 51, .load 27 (.tmp 4), _, _, _, _⟩) ?_ (.tmp 4) ?_ w.heap.size ?_ a1 v1 l1 hu ?_); (· rfl); (· rfl); (· rfl); simp only [Act.put, List.setIfInBounds_toArray, List.set_cons_zero, List.set_cons_succ])
          refine (C1.out _ HM5.out HS5.out).mono ?_
          rintro e X6 ⟨rfl, hB⟩
          have HB6 := Lib.hid (below_trans HB5.out hB)
          have HU6 := Lib.hid (HU5.out.later hB)
          have HV6 := Lib.hid (HV5.out.later hB)
          have HM6 := Lib.hid (HM5.out.later hB)
          have HP6 := Lib.hid (HP5.out.later hB)
          have HS6 := Lib.hid (HS5.out.later hB)
          have HT6 := Lib.hid (HT5.out.later hB)
          clear HB5 HU5 HV5 HM5 HP5 HS5 HT5
          clear hB hu C1
          cases x
          · obtain rfl : b = false := HXY.out
            clear HXY HC HQ
            go_wp2
            go_ret
            exact ⟨rfl, HX.out.trans (HB6.out.mono HX.out.size)⟩
          · have hv := HV6.out
            go_wp2_with ((with_reducible refine wp_load27 (o := ⟨some 54, .load 27 (.tmp 5), _, _, _, _⟩) ?_ (.tmp 5) ?_ (w.heap.size + 1) ?_ a2 v2 l2 hv ?_); (· rfl); (· rfl); (· rfl); simp only [Act.put, List.setIfInBounds_toArray, List.set_cons_zero, List.set_cons_succ])
            refine (C2.out _ HM6.out HT6.out).mono ?_
            rintro e X7 ⟨rfl, hB⟩
            have HB7 := Lib.hid (below_trans HB6.out hB)
            have HU7 := Lib.hid (HU6.out.later hB)
            have HV7 := Lib.hid (HV6.out.later hB)
            have HM7 := Lib.hid (HM6.out.later hB)
            have HP7 := Lib.hid (HP6.out.later hB)
            have HS7 := Lib.hid (HS6.out.later hB)
            have HT7 := Lib.hid (HT6.out.later hB)
            clear HB6 HU6 HV6 HM6 HP6 HS6 HT6
            clear hB hv C2
            cases y
            · obtain rfl : b = true := HXY.out
              obtain rfl : c = false := HC.out (by first | rfl | trivial)
              clear HXY HC HQ
              have hu := HU7.out
              have hv := HV7.out
              go_wp2_with (first | ((with_reducible refine wp_load27 (o := ⟨some 75, .load 27 (.tmp 4), _, _, _, _⟩) ?_ (.tmp 4) ?_ w.heap.size ?_ a1 v1 l1 hu ?_); (· rfl); (· rfl); (· rfl); simp only [Act.put, List.setIfInBounds_toArray, List.set_cons_zero, List.set_cons_succ]) | ((with_reducible refine wp_load27 (o := ⟨some 76, .load 27 (.tmp 5), _, _, _, _⟩) ?_ (.tmp 5) ?_ (w.heap.size + 1) ?_ a2 v2 l2 hv ?_); (· rfl); (· rfl); (· rfl); simp only [Act.put, List.setIfInBounds_toArray, List.set_cons_zero, List.set_cons_succ]))
              refine (CB.out _ HM7.out HS7.out HT7.out).mono ?_
              rintro e X8 ⟨rfl, hB⟩
              have HB8 := Lib.hid (below_trans HB7.out hB)
              have HU8 := Lib.hid (HU7.out.later hB)
              have HV8 := Lib.hid (HV7.out.later hB)
              have HM8 := Lib.hid (HM7.out.later hB)
              have HP8 := Lib.hid (HP7.out.later hB)
              have HS8 := Lib.hid (HS7.out.later hB)
              have HT8 := Lib.hid (HT7.out.later hB)
              clear HB7 HU7 HV7 HM7 HP7 HS7 HT7
              clear hB hu hv CB
              go_wp2
              go_ret
              exact ⟨rfl, HX.out.trans (HB8.out.mono HX.out.size)⟩
            · obtain rfl : b = false := HXY.out
              clear HXY HC HQ
              go_wp2
              go_ret
              exact ⟨rfl, HX.out.trans (HB7.out.mono HX.out.size)⟩

/-! ### The row's step -/
theorem reads (os : Os) {H : Type} (enc : TypeId × Value → H) : (DataW.whole enc Tryz.prog ((Card.laidWorld os).forCall (fun _ _ => 0) ⟨#[], #[.int .i64 0, .agg #[.string ByteArray.empty, .string ByteArray.empty, .string ByteArray.empty, .int .i64 0, .string ByteArray.empty, .int .i64 0, .int .i64 0, .int .i64 0, .int .i64 0, .int .i64 0, .int .i64 0, .int .i64 0, .int .i64 0, .int .i64 0, .int .i64 0, .slice none 0 0, .string ByteArray.empty, .string ByteArray.empty, .string ByteArray.empty, .bool false, .bool false], .agg #[.string ByteArray.empty, .string ByteArray.empty, .string ByteArray.empty, .int .i64 0, .string ByteArray.empty, .int .i64 0, .int .i64 0, .int .i64 0, .int .i64 0, .int .i64 0, .int .i64 0, .int .i64 0, .int .i64 0, .int .i64 0, .int .i64 0, .slice none 0 0, .string ByteArray.empty, .string ByteArray.empty, .string ByteArray.empty, .bool false, .bool false]], []⟩).memory Tryz.f7.params.toList Rows.referDownSpec.vars false (#[.int .i64 0, .agg #[.string ByteArray.empty, .string ByteArray.empty, .string ByteArray.empty, .int .i64 0, .string ByteArray.empty, .int .i64 0, .int .i64 0, .int .i64 0, .int .i64 0, .int .i64 0, .int .i64 0, .int .i64 0, .int .i64 0, .int .i64 0, .int .i64 0, .slice none 0 0, .string ByteArray.empty, .string ByteArray.empty, .string ByteArray.empty, .bool false, .bool false], .agg #[.string ByteArray.empty, .string ByteArray.empty, .string ByteArray.empty, .int .i64 0, .string ByteArray.empty, .int .i64 0, .int .i64 0, .int .i64 0, .int .i64 0, .int .i64 0, .int .i64 0, .int .i64 0, .int .i64 0, .int .i64 0, .int .i64 0, .slice none 0 0, .string ByteArray.empty, .string ByteArray.empty, .string ByteArray.empty, .bool false, .bool false]] : Array Value).toList 8).map (fun x => (x.1, x.2.1)) = some ([.lit (.int .i64 0), .agg [.lit (.string []), .lit (.string []), .lit (.string []), .agg [.lit (.int .i64 0), .lit (.string []), .lit (.int .i64 0), .agg [.lit (.int .i64 0), .lit (.int .i64 0), .lit (.int .i64 0), .lit (.int .i64 0), .lit (.int .i64 0), .lit (.int .i64 0), .lit (.int .i64 0), .lit (.int .i64 0)]], .lit (.int .i64 0), .nil, .lit (.string []), .lit (.string []), .lit (.string []), .lit (.bool false), .lit (.bool false)], .agg [.lit (.string []), .lit (.string []), .lit (.string []), .agg [.lit (.int .i64 0), .lit (.string []), .lit (.int .i64 0), .agg [.lit (.int .i64 0), .lit (.int .i64 0), .lit (.int .i64 0), .lit (.int .i64 0), .lit (.int .i64 0), .lit (.int .i64 0), .lit (.int .i64 0), .lit (.int .i64 0)]], .lit (.int .i64 0), .nil, .lit (.string []), .lit (.string []), .lit (.string []), .lit (.bool false), .lit (.bool false)]], []) := by kernel_rfl
set_option maxRecDepth 100000 in
theorem lifted (os : Os) (started : os.Started) (H : Type) (enc : TypeId × Value → H) (F : Stop.Interp) :
    ReturnsInHanded {} Tryz.checked os 7 .any ((OpenSpec.ofChange Rows.referDownSpec).preRow enc Tryz.prog Tryz.f7 Rows.referDownRow.domain false Rows.referDownRow.laid) (((OpenSpec.ofChange Rows.referDownSpec).at F).post enc Tryz.prog Tryz.f7 false true false false) := by
  obtain ⟨⟨x1, x2, x3⟩, hx, hx1⟩ := Option.map_eq_some_iff.1 (reads os enc)
  simp only [Prod.mk.injEq] at hx1
  obtain ⟨rfl, rfl⟩ := hx1
  refine returnsInHanded_of_row (C := Tryz.checked) (s := OpenSpec.ofChange Rows.referDownSpec) own started (by kernel_rfl) Tryz.func7
    (witness_row_at (enc := enc) (C := Tryz.checked) false (Card.laidWorld os) #[.int .i64 0, .agg #[.string ByteArray.empty, .string ByteArray.empty, .string ByteArray.empty, .int .i64 0, .string ByteArray.empty, .int .i64 0, .int .i64 0, .int .i64 0, .int .i64 0, .int .i64 0, .int .i64 0, .int .i64 0, .int .i64 0, .int .i64 0, .int .i64 0, .slice none 0 0, .string ByteArray.empty, .string ByteArray.empty, .string ByteArray.empty, .bool false, .bool false], .agg #[.string ByteArray.empty, .string ByteArray.empty, .string ByteArray.empty, .int .i64 0, .string ByteArray.empty, .int .i64 0, .int .i64 0, .int .i64 0, .int .i64 0, .int .i64 0, .int .i64 0, .int .i64 0, .int .i64 0, .int .i64 0, .int .i64 0, .slice none 0 0, .string ByteArray.empty, .string ByteArray.empty, .string ByteArray.empty, .bool false, .bool false]] rfl (by kernel_rfl) (by kernel_rfl) (by kernel_rfl)
      (OpenSpec.preRow_of_cond 8 hx (by kernel_rfl) (fun k hk => by cases hk) (by kernel_rfl) (Card.laid_met os _))) ?_
  intro W base args ds gs before hval0 hW _ _ _ hL hsh _
  obtain ⟨m, hmax⟩ := Card.maxLen_int hsh
  have hm : Six.At m W := ⟨hmax, fun k => k.elim⟩
  have hT : Policy.TabAt W := Card.levels_of hL
  have hval : ∀ (j : Nat) t v, Tryz.f7.params[j]? = some t → args[j]? = some v → Value.okWide Tryz.prog W .any base t v := hval0
  have hW' := hW
  obtain ⟨p, q, hA0, hV, rfl, hfz, hnd⟩ := hW
  have hA : DataW.TrodAll enc Tryz.prog W 0 (fun _ => true) true Tryz.f7.params.toList args.toList ds p := hA0
  rw [Tryz.params7] at hA hval
  obtain ⟨v0, vs0, d0, ds0, p0, q0, hargs0, rfl, rfl, t0, r0⟩ := trodAll_cons hA
  obtain ⟨v1, vs1, d1, ds1, p1, q1, hargs1, rfl, rfl, t1, r1⟩ := trodAll_cons r0
  obtain ⟨v2, vs2, d2, ds2, p2, q2, hargs2, rfl, rfl, t2, r2⟩ := trodAll_cons r1
  obtain ⟨rfl, rfl, rfl⟩ := trodAll_nil r2
  obtain rfl : args = #[v0, v1, v2] := by cases args; simp_all
  obtain ⟨rfl, rfl⟩ := trodVars_none hV
  obtain ⟨a0, rfl, rfl, rfl, w0⟩ := open_int Tryz.underlying3 (hval 0 3 v0 rfl rfl) t0
  have k1 := t1
  have lt1 : ∀ x ∈ p1, x.block < W.heap.size := by obtain ⟨m, hm⟩ := k1; exact DataW.trod_lt m _ _ _ hm
  obtain ⟨a1, pv1, l1, rfl, z1, w1⟩ := Url.open_url (hval 1 27 v1 rfl rfl) t1
  have k2 := t2
  have lt2 : ∀ x ∈ p2, x.block < W.heap.size := by obtain ⟨m, hm⟩ := k2; exact DataW.trod_lt m _ _ _ hm
  obtain ⟨a2, pv2, l2, rfl, z2, w2⟩ := Url.open_url (hval 2 27 v2 rfl rfl) t2
  clear hA0 hval0
  simp only [List.append_nil] at hW'
  refine (walk a0 a1 pv1 l1 a2 pv2 l2 w0 m W hm hT z1 w1 z2 w2).mono fun e W' ⟨he, bel⟩ => ?_
  subst he
  exact ⟨_, rfl, _, _, _, [], _, [], hW', trodAll_mk1 (shut_bool Tryz.underlying4 _), (trodAll_cons_mk (shut_int Tryz.underlying3 w0) (trodAll_cons_mk (Below.trod laidOut (by kernel_rfl) (of_decide_eq_true (by kernel_rfl)) k1 bel lt1) (trodAll_cons_mk (Below.trod laidOut (by kernel_rfl) (of_decide_eq_true (by kernel_rfl)) k2 bel lt2) trodAll_mk0))), rfl, bel.frame _, fun h => by cases h⟩

theorem said : Rows.referDownRow.holds Tryz.pinned (OpenSpec.ofChange Rows.referDownSpec) :=
  OpenClaim.holds_of_cond 7 Tryz.f7 rfl rfl rfl rfl rfl rfl rfl ⟨rfl, rfl, rfl, rfl, rfl⟩ rfl rfl rfl rfl rfl (by kernel_rfl) Tryz.func7 (by kernel_rfl)
    (of_decide_eq_true (by kernel_rfl)) (by unfold Func.isWrapper; first | (rw [if_pos (by decide +kernel)]; kernel_rfl) | (rw [if_neg (by decide +kernel)]; exact ⟨rfl, rfl⟩))
    (fun os started H enc _ F => by rw [OpenClaim.pre_eq_preRow]; exact lifted os started H enc F)

/-- No parameter wants a stand-in; the program's own looks are on. -/
theorem plain (f : FuncId) (fn : Func) (hf : Tryz.pinned.checked.prog.funcNamed Rows.referDownRow.func = some f) (hfn : Tryz.pinned.checked.prog.funcs[f]? = some fn) :
    true = Tryz.pinned.checked.prog.looks [] ∧ ∀ (j : Nat) t, fn.params[j]? = some t → Tryz.pinned.checked.prog.wantsStandIn t = false := by
  obtain rfl : f = 7 := Option.some.inj ((show Tryz.prog.funcNamed Rows.referDownRow.func = some 7 by kernel_rfl).symm.trans hf) |>.symm
  obtain rfl : fn = Tryz.f7 := (Option.some.inj (Tryz.func7.symm.trans hfn)).symm
  refine ⟨by kernel_rfl, fun j t ht => ?_⟩
  rw [Tryz.params7] at ht
  obtain rfl | rfl : t = 3 ∨ t = 27 := by simpa using Array.mem_of_getElem? ht
  · exact (show Tryz.prog.wantsStandIn 3 = false by kernel_rfl)
  · exact (show Tryz.prog.wantsStandIn 27 = false by kernel_rfl)

/-- The statement: the card. -/
theorem proved : Rows.ReferDownCardSaid :=
  Claim7.holds_tied_plain_at .later [] _ _ _ _ said (fun _ h => by cases h) (by kernel_rfl) (fun _ h => by cases h) referDown_row_tie rfl ⟨rfl, rfl⟩ (by kernel_rfl) rfl plain (by kernel_rfl)
#print axioms proved
end Go.Proofs.YtbmnhmbicefemaaGreatDoor.referDown
