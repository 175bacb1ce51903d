/-
  WHAT IS PROVED: the card of OriginTrust: of any two addresses whose parts are few and short: to be trusted hangs on the origin alone; of https all that may be are; what has no origin is not.
  CONDITIONS: none but the card's own: the listed tables read as their texts lay them; the addresses are any.
-/
import Derived.Test.YtkhgdcpkhbpemaaGreatDoorCards
import Derived.Test.YtkhgdcpkhbpemaaGreatDoorTie
import Derived.WalkKit
import Derived.ProofKit
import Derived.OpenShut
import Derived.ShutString
import Derived.ChangeOld
import Derived.Below
import Derived.Deep.RegionHeld
import Derived.Laws.AppendOwnNone
import Derived.Test.YtkhgdcpkhbpemaaGreatDoorOAwake
import Derived.Test.YtkhgdcpkhbpemaaGreatDoorLaid
import Derived.Test.YtkhgdcpkhbpemaaGreatDoorHOpen
namespace Go.Proofs.YtkhgdcpkhbpemaaGreatDoor.originTrust
open Go.ChangeShapes Go.WideShapes Go.ChangeAt Go.RowKit
open Go.ChangeMaps (open_string shut_string)
open Go.Shelf
open Go.Proofs.YtkhgdcpkhbpemaaGreatDoor.Url
open Go.Proofs.YtkhgdcpkhbpemaaGreatDoor.Host (H)
open Go.Proofs.YtkhgdcpkhbpemaaGreatDoor.Path (Strs)
set_option linter.unusedSimpArgs false
set_option linter.unusedVariables false

theorem own : ownKnob Tryz.prog.godebug = none := by kernel_rfl
theorem laidOut : laidOutB Tryz.prog = true := by kernel_rfl

open Go.Proofs.YtkhgdcpkhbpemaaGreatDoor.Show
open Go.Proofs.YtkhgdcpkhbpemaaGreatDoor.Origin
set_option maxRecDepth 100000
set_option maxHeartbeats 16000000 in
theorem walk (a0 : U) (v0 : Value) (l0 : a0.h.p.length = 8) (a1 : U) (v1 : Value) (l1 : a1.h.p.length = 8) (m : Int) (w : World) (hm : Six.At m w) (s0 : Path.Strs w v0 a0.path) (w0 : (Lit.int .i64 a0.port).wf = true) (s1 : Path.Strs w v1 a1.path) (w1 : (Lit.int .i64 a1.port).wf = true) :
    Calls Tryz.prog 6 #[.agg (cU a0 v0), .agg (cU a1 v1)] w fun e w' => e = .returned (.bool true) ∧ Below w.heap.size w w' := by
  have e1 : (w.alloc (.cells (cU a0 v0) 27)).heap.size = w.heap.size + 1 := Array.size_push _
  have b1 : Below w.heap.size w (w.alloc (.cells (cU a0 v0) 27)) := (Below.refl w.heap.size w).alloc (Nat.le_refl _) _
  have b2 : Below w.heap.size w ((w.alloc (.cells (cU a0 v0) 27)).alloc (.cells (cU a1 v1) 27)) := b1.alloc (by omega) _
  have HX := Lib.hid b2
  have HU0 := Lib.hid ((UrlAt.new w a0 v0).past (.cells (cU a1 v1) 27))
  have HV0 := Lib.hid (show UrlAt ((w.alloc (.cells (cU a0 v0) 27)).alloc (.cells (cU a1 v1) 27)) (w.heap.size + 1) a1 v1 from by rw [← e1]; exact UrlAt.new (w.alloc (.cells (cU a0 v0) 27)) a1 v1)
  have HM0 := Lib.hid (hm.later HX.out)
  have HS0 := Lib.hid (s0.later HX.out)
  have HT0 := Lib.hid (s1.later HX.out)
  clear hm e1 b1 b2 s0 s1
  go_enter Tryz.func6, Tryz.ntmps6
  go_wp2_with fail
  generalize ((w.alloc (.cells (cU a0 v0) 27)).alloc (.cells (cU a1 v1) 27)) = X0 at HX HM0 HU0 HS0 HV0 HT0 ⊢
  have HMX := HM0
  refine (Origin.awake_calls m X0 HM0.out).mono ?_
  rintro e X1 ⟨rfl, hB⟩
  have HB1 := Lib.hid (hB)
  have HU1 := Lib.hid (HU0.out.later hB)
  have HV1 := Lib.hid (HV0.out.later hB)
  have HM1 := Lib.hid (HM0.out.later hB)
  have HS1 := Lib.hid (HS0.out.later hB)
  have HT1 := Lib.hid (HT0.out.later hB)
  clear HU0 HV0 HM0 HS0 HT0
  clear hB
  obtain ⟨f0, hf0⟩ : ∃ b, fewU a0 = b := ⟨_, rfl⟩
  have hu := HU1.out
  go_wp2_with ((with_reducible refine wp_load27 (o := ⟨some 10, .load 27 (.tmp 2), _, _, _, _⟩) ?_ (.tmp 2) ?_ w.heap.size ?_ a0 v0 l0 hu ?_); (· rfl); (· rfl); (· rfl); simp only [Act.put, List.setIfInBounds_toArray, List.set_cons_zero, List.set_cons_succ])
  refine (few_any a0 v0 l0 f0 hf0 _ HS1.out).mono ?_
  rintro e X2 ⟨rfl, hB⟩
  have HB2 := Lib.hid (below_trans HB1.out hB)
  have HU2 := Lib.hid (HU1.out.later hB)
  have HV2 := Lib.hid (HV1.out.later hB)
  have HM2 := Lib.hid (HM1.out.later hB)
  have HS2 := Lib.hid (HS1.out.later hB)
  have HT2 := Lib.hid (HT1.out.later hB)
  clear HB1 HU1 HV1 HM1 HS1 HT1
  clear hB hu
  obtain ⟨f1, hf1⟩ : ∃ b, fewU a1 = b := ⟨_, rfl⟩
  have hu := HV2.out
  go_wp2_with ((with_reducible refine wp_load27 (o := ⟨some 12, .load 27 (.tmp 3), _, _, _, _⟩) ?_ (.tmp 3) ?_ (w.heap.size + 1) ?_ a1 v1 l1 hu ?_); (· rfl); (· rfl); (· rfl); simp only [Act.put, List.setIfInBounds_toArray, List.set_cons_zero, List.set_cons_succ])
  refine (few_any a1 v1 l1 f1 hf1 _ HT2.out).mono ?_
  rintro e X3 ⟨rfl, hB⟩
  have HB3 := Lib.hid (below_trans HB2.out hB)
  have HU3 := Lib.hid (HU2.out.later hB)
  have HV3 := Lib.hid (HV2.out.later hB)
  have HM3 := Lib.hid (HM2.out.later hB)
  have HS3 := Lib.hid (HS2.out.later hB)
  have HT3 := Lib.hid (HT2.out.later hB)
  clear HB2 HU2 HV2 HM2 HS2 HT2
  clear hB hu
  cases f0
  · go_wp2
    go_ret
    exact ⟨rfl, HX.out.trans (HB3.out.mono HX.out.size)⟩
  cases f1
  · go_wp2
    go_ret
    exact ⟨rfl, HX.out.trans (HB3.out.mono HX.out.size)⟩
  have F0 := few_fit a0 l0 hf0
  have F1 := few_fit a1 l1 hf1
  obtain ⟨t, ht⟩ : ∃ b, trustU a0 = b := ⟨_, rfl⟩
  obtain ⟨t1, ht1⟩ : ∃ b, trustU a1 = b := ⟨_, rfl⟩
  obtain ⟨o, ho⟩ : ∃ b, ofU a0 = b := ⟨_, rfl⟩
  obtain ⟨b, hb⟩ : ∃ b, bothU a0 a1 = b := ⟨_, rfl⟩
  obtain ⟨mu, hmu⟩ : ∃ b, mayU a0 = b := ⟨_, rfl⟩
  obtain ⟨N, hN⟩ : ∃ n, tb a0.sch = n := ⟨_, rfl⟩
  obtain ⟨e5, he5⟩ : ∃ b, (N.toList == [104, 116, 116, 112, 115]) = b := ⟨_, rfl⟩
  have q8 : o.h.p.length = 8 := by rw [← ho]; exact of_len a0 l0
  have CT := Lib.hid (fun y hm hs => trust_any a0 v0 F0 t ht m y hm hs)
  have CT1 := Lib.hid (fun y hm hs => trust_any a1 v1 F1 t1 ht1 m y hm hs)
  have CO := Lib.hid (fun y hm hs => of_any a0 v0 F0 o ho m y hm hs)
  have CB := Lib.hid (fun y hm hs hs' => both_any a0 a1 v0 v1 F0 F1 b hb m y hm hs hs')
  have CM := Lib.hid (fun y hm hs => Url.may_any a0 v0 F0 mu hmu m y hm hs)
  have K1 := Lib.hid (show t = true → o.opaq = false from fun h => by
    obtain ⟨h1, h2⟩ := trust_may (ht.trans h)
    rw [← ho, of_web h1 h2])
  have K2 := Lib.hid (show b = true → t1 = t from fun h => by rw [← ht, ← ht1]; exact (trust_both (hb.trans h)).symm)
  have K3 := Lib.hid (show e5 = true → mu = t from fun h => by
    have h' : (N.toList == [104, 116, 116, 112, 115]) = true := he5.trans h
    rw [Path.tl, list_tb hN] at h'
    rw [← ht, ← hmu]; exact (trust_https (beq_iff_eq.1 h')).symm)
  have hfd := field29 o q8
  have HFD := Lib.hid hfd
  have HN := Lib.hid hN
  have HE := Lib.hid he5
  clear hf0 hf1 F0 F1 ht ht1 ho hb hmu hN he5 q8 hfd
  have h0 := HU3.out
  go_wp2_with ((with_reducible refine wp_load27 (o := ⟨some 25, .load 27 (.tmp 2), _, _, _, _⟩) ?_ (.tmp 2) ?_ w.heap.size ?_ a0 v0 l0 h0 ?_); (· rfl); (· rfl); (· rfl); simp only [Act.put, List.setIfInBounds_toArray, List.set_cons_zero, List.set_cons_succ])
  refine (CT.out _ HM3.out HS3.out).mono ?_
  rintro e X4 ⟨rfl, hB⟩
  have HB4 := Lib.hid (below_trans HB3.out hB)
  have HU4 := Lib.hid (HU3.out.later hB)
  have HV4 := Lib.hid (HV3.out.later hB)
  have HM4 := Lib.hid (HM3.out.later hB)
  have HS4 := Lib.hid (HS3.out.later hB)
  have HT4 := Lib.hid (HT3.out.later hB)
  clear HB3 HU3 HV3 HM3 HS3 HT3
  clear hB h0
  cases t
  · have h0 := HU4.out
    have h1 := HV4.out
    go_wp2_with (first | ((with_reducible refine wp_load27 (o := ⟨some 36, .load 27 (.tmp 2), _, _, _, _⟩) ?_ (.tmp 2) ?_ w.heap.size ?_ a0 v0 l0 h0 ?_); (· rfl); (· rfl); (· rfl); simp only [Act.put, List.setIfInBounds_toArray, List.set_cons_zero, List.set_cons_succ]) | ((with_reducible refine wp_load27 (o := ⟨some 37, .load 27 (.tmp 3), _, _, _, _⟩) ?_ (.tmp 3) ?_ (w.heap.size + 1) ?_ a1 v1 l1 h1 ?_); (· rfl); (· rfl); (· rfl); simp only [Act.put, List.setIfInBounds_toArray, List.set_cons_zero, List.set_cons_succ]))
    refine (CB.out _ HM4.out HS4.out HT4.out).mono ?_
    rintro e X6 ⟨rfl, hB⟩
    have HB5 := Lib.hid (below_trans HB4.out hB)
    have HU5 := Lib.hid (HU4.out.later hB)
    have HV5 := Lib.hid (HV4.out.later hB)
    have HM5 := Lib.hid (HM4.out.later hB)
    have HS5 := Lib.hid (HS4.out.later hB)
    have HT5 := Lib.hid (HT4.out.later hB)
    clear HB4 HU4 HV4 HM4 HS4 HT4
    clear hB h0 h1
    cases b
    · have c0 := HU5.out.cell 0
      rw [(cU_at a0 v0 l0).1, HN.out] at c0
      have he5 := HE.out
      cases e5
      · go_wp2
        go_ret
        exact ⟨rfl, HX.out.trans (HB5.out.mono HX.out.size)⟩
      · obtain rfl := K3.out (by first | rfl | trivial)
        have h0 := HU5.out
        go_wp2_with ((with_reducible refine wp_load27 (o := ⟨some 53, .load 27 (.tmp 2), _, _, _, _⟩) ?_ (.tmp 2) ?_ w.heap.size ?_ a0 v0 l0 h0 ?_); (· rfl); (· rfl); (· rfl); simp only [Act.put, List.setIfInBounds_toArray, List.set_cons_zero, List.set_cons_succ])
        refine (CM.out _ HM5.out HS5.out).mono ?_
        rintro e X8 ⟨rfl, hB⟩
        have HB6 := Lib.hid (below_trans HB5.out hB)
        have HU6 := Lib.hid (HU5.out.later hB)
        have HV6 := Lib.hid (HV5.out.later hB)
        have HM6 := Lib.hid (HM5.out.later hB)
        have HS6 := Lib.hid (HS5.out.later hB)
        have HT6 := Lib.hid (HT5.out.later hB)
        clear HB5 HU5 HV5 HM5 HS5 HT5
        clear hB h0
        go_wp2
        go_ret
        exact ⟨rfl, HX.out.trans (HB6.out.mono HX.out.size)⟩
    · obtain rfl := K2.out (by first | rfl | trivial)
      have h0 := HV5.out
      go_wp2_with ((with_reducible refine wp_load27 (o := ⟨some 42, .load 27 (.tmp 3), _, _, _, _⟩) ?_ (.tmp 3) ?_ (w.heap.size + 1) ?_ a1 v1 l1 h0 ?_); (· rfl); (· rfl); (· rfl); simp only [Act.put, List.setIfInBounds_toArray, List.set_cons_zero, List.set_cons_succ])
      refine (CT1.out _ HM5.out HT5.out).mono ?_
      rintro e X7 ⟨rfl, hB⟩
      have HB6 := Lib.hid (below_trans HB5.out hB)
      have HU6 := Lib.hid (HU5.out.later hB)
      have HV6 := Lib.hid (HV5.out.later hB)
      have HM6 := Lib.hid (HM5.out.later hB)
      have HS6 := Lib.hid (HS5.out.later hB)
      have HT6 := Lib.hid (HT5.out.later hB)
      clear HB5 HU5 HV5 HM5 HS5 HT5
      clear hB h0
      have c0 := HU6.out.cell 0
      rw [(cU_at a0 v0 l0).1, HN.out] at c0
      have he5 := HE.out
      cases e5
      · go_wp2
        go_ret
        exact ⟨rfl, HX.out.trans (HB6.out.mono HX.out.size)⟩
      · obtain rfl := K3.out (by first | rfl | trivial)
        have h0 := HU6.out
        go_wp2_with ((with_reducible refine wp_load27 (o := ⟨some 53, .load 27 (.tmp 2), _, _, _, _⟩) ?_ (.tmp 2) ?_ w.heap.size ?_ a0 v0 l0 h0 ?_); (· rfl); (· rfl); (· rfl); simp only [Act.put, List.setIfInBounds_toArray, List.set_cons_zero, List.set_cons_succ])
        refine (CM.out _ HM6.out HS6.out).mono ?_
        rintro e X8 ⟨rfl, hB⟩
        have HB7 := Lib.hid (below_trans HB6.out hB)
        have HU7 := Lib.hid (HU6.out.later hB)
        have HV7 := Lib.hid (HV6.out.later hB)
        have HM7 := Lib.hid (HM6.out.later hB)
        have HS7 := Lib.hid (HS6.out.later hB)
        have HT7 := Lib.hid (HT6.out.later hB)
        clear HB6 HU6 HV6 HM6 HS6 HT6
        clear hB h0
        go_wp2
        go_ret
        exact ⟨rfl, HX.out.trans (HB7.out.mono HX.out.size)⟩
  · have k1 := K1.out (by first | rfl | trivial)
    have h0 := HU4.out
    go_wp2_with ((with_reducible refine wp_load27 (o := ⟨some 30, .load 27 (.tmp 2), _, _, _, _⟩) ?_ (.tmp 2) ?_ w.heap.size ?_ a0 v0 l0 h0 ?_); (· rfl); (· rfl); (· rfl); simp only [Act.put, List.setIfInBounds_toArray, List.set_cons_zero, List.set_cons_succ])
    refine (CO.out _ HM4.out HS4.out).mono ?_
    rintro e X5 ⟨rfl, hB⟩
    have HB5 := Lib.hid (below_trans HB4.out hB)
    have HU5 := Lib.hid (HU4.out.later hB)
    have HV5 := Lib.hid (HV4.out.later hB)
    have HM5 := Lib.hid (HM4.out.later hB)
    have HS5 := Lib.hid (HS4.out.later hB)
    have HT5 := Lib.hid (HT4.out.later hB)
    clear HB4 HU4 HV4 HM4 HS4 HT4
    clear hB h0
    have hfd := HFD.out
    rw [k1] at hfd
    have h0 := HU5.out
    have h1 := HV5.out
    go_wp2_with (first | ((with_reducible refine wp_load27 (o := ⟨some 36, .load 27 (.tmp 2), _, _, _, _⟩) ?_ (.tmp 2) ?_ w.heap.size ?_ a0 v0 l0 h0 ?_); (· rfl); (· rfl); (· rfl); simp only [Act.put, List.setIfInBounds_toArray, List.set_cons_zero, List.set_cons_succ]) | ((with_reducible refine wp_load27 (o := ⟨some 37, .load 27 (.tmp 3), _, _, _, _⟩) ?_ (.tmp 3) ?_ (w.heap.size + 1) ?_ a1 v1 l1 h1 ?_); (· rfl); (· rfl); (· rfl); simp only [Act.put, List.setIfInBounds_toArray, List.set_cons_zero, List.set_cons_succ]))
    refine (CB.out _ HM5.out HS5.out HT5.out).mono ?_
    rintro e X6 ⟨rfl, hB⟩
    have HB6 := Lib.hid (below_trans HB5.out hB)
    have HU6 := Lib.hid (HU5.out.later hB)
    have HV6 := Lib.hid (HV5.out.later hB)
    have HM6 := Lib.hid (HM5.out.later hB)
    have HS6 := Lib.hid (HS5.out.later hB)
    have HT6 := Lib.hid (HT5.out.later hB)
    clear HB5 HU5 HV5 HM5 HS5 HT5
    clear hB h0 h1
    cases b
    · have c0 := HU6.out.cell 0
      rw [(cU_at a0 v0 l0).1, HN.out] at c0
      have he5 := HE.out
      cases e5
      · go_wp2
        go_ret
        exact ⟨rfl, HX.out.trans (HB6.out.mono HX.out.size)⟩
      · obtain rfl := K3.out (by first | rfl | trivial)
        have h0 := HU6.out
        go_wp2_with ((with_reducible refine wp_load27 (o := ⟨some 53, .load 27 (.tmp 2), _, _, _, _⟩) ?_ (.tmp 2) ?_ w.heap.size ?_ a0 v0 l0 h0 ?_); (· rfl); (· rfl); (· rfl); simp only [Act.put, List.setIfInBounds_toArray, List.set_cons_zero, List.set_cons_succ])
        refine (CM.out _ HM6.out HS6.out).mono ?_
        rintro e X8 ⟨rfl, hB⟩
        have HB7 := Lib.hid (below_trans HB6.out hB)
        have HU7 := Lib.hid (HU6.out.later hB)
        have HV7 := Lib.hid (HV6.out.later hB)
        have HM7 := Lib.hid (HM6.out.later hB)
        have HS7 := Lib.hid (HS6.out.later hB)
        have HT7 := Lib.hid (HT6.out.later hB)
        clear HB6 HU6 HV6 HM6 HS6 HT6
        clear hB h0
        go_wp2
        go_ret
        exact ⟨rfl, HX.out.trans (HB7.out.mono HX.out.size)⟩
    · obtain rfl := K2.out (by first | rfl | trivial)
      have h0 := HV6.out
      go_wp2_with ((with_reducible refine wp_load27 (o := ⟨some 42, .load 27 (.tmp 3), _, _, _, _⟩) ?_ (.tmp 3) ?_ (w.heap.size + 1) ?_ a1 v1 l1 h0 ?_); (· rfl); (· rfl); (· rfl); simp only [Act.put, List.setIfInBounds_toArray, List.set_cons_zero, List.set_cons_succ])
      refine (CT1.out _ HM6.out HT6.out).mono ?_
      rintro e X7 ⟨rfl, hB⟩
      have HB7 := Lib.hid (below_trans HB6.out hB)
      have HU7 := Lib.hid (HU6.out.later hB)
      have HV7 := Lib.hid (HV6.out.later hB)
      have HM7 := Lib.hid (HM6.out.later hB)
      have HS7 := Lib.hid (HS6.out.later hB)
      have HT7 := Lib.hid (HT6.out.later hB)
      clear HB6 HU6 HV6 HM6 HS6 HT6
      clear hB h0
      have c0 := HU7.out.cell 0
      rw [(cU_at a0 v0 l0).1, HN.out] at c0
      have he5 := HE.out
      cases e5
      · go_wp2
        go_ret
        exact ⟨rfl, HX.out.trans (HB7.out.mono HX.out.size)⟩
      · obtain rfl := K3.out (by first | rfl | trivial)
        have h0 := HU7.out
        go_wp2_with ((with_reducible refine wp_load27 (o := ⟨some 53, .load 27 (.tmp 2), _, _, _, _⟩) ?_ (.tmp 2) ?_ w.heap.size ?_ a0 v0 l0 h0 ?_); (· rfl); (· rfl); (· rfl); simp only [Act.put, List.setIfInBounds_toArray, List.set_cons_zero, List.set_cons_succ])
        refine (CM.out _ HM7.out HS7.out).mono ?_
        rintro e X8 ⟨rfl, hB⟩
        have HB8 := Lib.hid (below_trans HB7.out hB)
        have HU8 := Lib.hid (HU7.out.later hB)
        have HV8 := Lib.hid (HV7.out.later hB)
        have HM8 := Lib.hid (HM7.out.later hB)
        have HS8 := Lib.hid (HS7.out.later hB)
        have HT8 := Lib.hid (HT7.out.later hB)
        clear HB7 HU7 HV7 HM7 HS7 HT7
        clear hB h0
        go_wp2
        go_ret
        exact ⟨rfl, HX.out.trans (HB8.out.mono HX.out.size)⟩

/-! ### The row's step -/
theorem reads (os : Os) {H : Type} (enc : TypeId × Value → H) : (DataW.whole enc Tryz.prog ((Card.laidWorld os).forCall (fun _ _ => 0) ⟨#[], #[.agg #[.string ByteArray.empty, .string ByteArray.empty, .string ByteArray.empty, .int .i64 0, .string ByteArray.empty, .int .i64 0, .int .i64 0, .int .i64 0, .int .i64 0, .int .i64 0, .int .i64 0, .int .i64 0, .int .i64 0, .int .i64 0, .int .i64 0, .slice none 0 0, .string ByteArray.empty, .string ByteArray.empty, .string ByteArray.empty, .bool false, .bool false], .agg #[.string ByteArray.empty, .string ByteArray.empty, .string ByteArray.empty, .int .i64 0, .string ByteArray.empty, .int .i64 0, .int .i64 0, .int .i64 0, .int .i64 0, .int .i64 0, .int .i64 0, .int .i64 0, .int .i64 0, .int .i64 0, .int .i64 0, .slice none 0 0, .string ByteArray.empty, .string ByteArray.empty, .string ByteArray.empty, .bool false, .bool false]], []⟩).memory Tryz.f6.params.toList Rows.originTrustSpec.vars false (#[.agg #[.string ByteArray.empty, .string ByteArray.empty, .string ByteArray.empty, .int .i64 0, .string ByteArray.empty, .int .i64 0, .int .i64 0, .int .i64 0, .int .i64 0, .int .i64 0, .int .i64 0, .int .i64 0, .int .i64 0, .int .i64 0, .int .i64 0, .slice none 0 0, .string ByteArray.empty, .string ByteArray.empty, .string ByteArray.empty, .bool false, .bool false], .agg #[.string ByteArray.empty, .string ByteArray.empty, .string ByteArray.empty, .int .i64 0, .string ByteArray.empty, .int .i64 0, .int .i64 0, .int .i64 0, .int .i64 0, .int .i64 0, .int .i64 0, .int .i64 0, .int .i64 0, .int .i64 0, .int .i64 0, .slice none 0 0, .string ByteArray.empty, .string ByteArray.empty, .string ByteArray.empty, .bool false, .bool false]] : Array Value).toList 8).map (fun x => (x.1, x.2.1)) = some ([.agg [.lit (.string []), .lit (.string []), .lit (.string []), .agg [.lit (.int .i64 0), .lit (.string []), .lit (.int .i64 0), .agg [.lit (.int .i64 0), .lit (.int .i64 0), .lit (.int .i64 0), .lit (.int .i64 0), .lit (.int .i64 0), .lit (.int .i64 0), .lit (.int .i64 0), .lit (.int .i64 0)]], .lit (.int .i64 0), .nil, .lit (.string []), .lit (.string []), .lit (.string []), .lit (.bool false), .lit (.bool false)], .agg [.lit (.string []), .lit (.string []), .lit (.string []), .agg [.lit (.int .i64 0), .lit (.string []), .lit (.int .i64 0), .agg [.lit (.int .i64 0), .lit (.int .i64 0), .lit (.int .i64 0), .lit (.int .i64 0), .lit (.int .i64 0), .lit (.int .i64 0), .lit (.int .i64 0), .lit (.int .i64 0)]], .lit (.int .i64 0), .nil, .lit (.string []), .lit (.string []), .lit (.string []), .lit (.bool false), .lit (.bool false)]], []) := by kernel_rfl
set_option maxRecDepth 100000 in
theorem lifted (os : Os) (started : os.Started) (H : Type) (enc : TypeId × Value → H) (F : Stop.Interp) :
    ReturnsInHanded {} Tryz.checked os 6 .any ((OpenSpec.ofChange Rows.originTrustSpec).preRow enc Tryz.prog Tryz.f6 Rows.originTrustRow.domain false Rows.originTrustRow.laid) (((OpenSpec.ofChange Rows.originTrustSpec).at F).post enc Tryz.prog Tryz.f6 false true false false) := by
  obtain ⟨⟨x1, x2, x3⟩, hx, hx1⟩ := Option.map_eq_some_iff.1 (reads os enc)
  simp only [Prod.mk.injEq] at hx1
  obtain ⟨rfl, rfl⟩ := hx1
  refine returnsInHanded_of_row (C := Tryz.checked) (s := OpenSpec.ofChange Rows.originTrustSpec) own started (by kernel_rfl) Tryz.func6
    (witness_row_at (enc := enc) (C := Tryz.checked) false (Card.laidWorld os) #[.agg #[.string ByteArray.empty, .string ByteArray.empty, .string ByteArray.empty, .int .i64 0, .string ByteArray.empty, .int .i64 0, .int .i64 0, .int .i64 0, .int .i64 0, .int .i64 0, .int .i64 0, .int .i64 0, .int .i64 0, .int .i64 0, .int .i64 0, .slice none 0 0, .string ByteArray.empty, .string ByteArray.empty, .string ByteArray.empty, .bool false, .bool false], .agg #[.string ByteArray.empty, .string ByteArray.empty, .string ByteArray.empty, .int .i64 0, .string ByteArray.empty, .int .i64 0, .int .i64 0, .int .i64 0, .int .i64 0, .int .i64 0, .int .i64 0, .int .i64 0, .int .i64 0, .int .i64 0, .int .i64 0, .slice none 0 0, .string ByteArray.empty, .string ByteArray.empty, .string ByteArray.empty, .bool false, .bool false]] rfl (by kernel_rfl) (by kernel_rfl) (by kernel_rfl)
      (OpenSpec.preRow_of_cond 8 hx (by kernel_rfl) (fun k hk => by cases hk) (by kernel_rfl) (Card.laid_met os _))) ?_
  intro W base args ds gs before hval0 hW _ _ _ hL hsh _
  obtain ⟨m, hmax⟩ := Card.maxLen_int hsh
  have hm : Six.At m W := ⟨hmax, Six.tab_of hL⟩
  have hval : ∀ (j : Nat) t v, Tryz.f6.params[j]? = some t → args[j]? = some v → Value.okWide Tryz.prog W .any base t v := hval0
  have hW' := hW
  obtain ⟨p, q, hA0, hV, rfl, hfz, hnd⟩ := hW
  have hA : DataW.TrodAll enc Tryz.prog W 0 (fun _ => true) true Tryz.f6.params.toList args.toList ds p := hA0
  rw [Tryz.params6] at hA hval
  obtain ⟨v0, vs0, d0, ds0, p0, q0, hargs0, rfl, rfl, t0, r0⟩ := trodAll_cons hA
  obtain ⟨v1, vs1, d1, ds1, p1, q1, hargs1, rfl, rfl, t1, r1⟩ := trodAll_cons r0
  obtain ⟨rfl, rfl, rfl⟩ := trodAll_nil r1
  obtain rfl : args = #[v0, v1] := by cases args; simp_all
  obtain ⟨rfl, rfl⟩ := trodVars_none hV
  have k0 := t0
  have lt0 : ∀ x ∈ p0, x.block < W.heap.size := by obtain ⟨m, hm⟩ := k0; exact DataW.trod_lt m _ _ _ hm
  obtain ⟨a0, pv0, l0, rfl, z0, w0⟩ := Url.open_url (hval 0 27 v0 rfl rfl) t0
  have k1 := t1
  have lt1 : ∀ x ∈ p1, x.block < W.heap.size := by obtain ⟨m, hm⟩ := k1; exact DataW.trod_lt m _ _ _ hm
  obtain ⟨a1, pv1, l1, rfl, z1, w1⟩ := Url.open_url (hval 1 27 v1 rfl rfl) t1
  clear hA0 hval0
  simp only [List.append_nil] at hW'
  refine (walk a0 pv0 l0 a1 pv1 l1  m W hm z0 w0 z1 w1).mono fun e W' ⟨he, bel⟩ => ?_
  subst he
  exact ⟨_, rfl, _, _, _, [], _, [], hW', trodAll_mk1 (shut_bool Tryz.underlying4 _), (trodAll_cons_mk (Below.trod laidOut (by kernel_rfl) (of_decide_eq_true (by kernel_rfl)) k0 bel lt0) (trodAll_cons_mk (Below.trod laidOut (by kernel_rfl) (of_decide_eq_true (by kernel_rfl)) k1 bel lt1) trodAll_mk0)), rfl, bel.frame _, fun h => by cases h⟩

theorem said : Rows.originTrustRow.holds Tryz.pinned (OpenSpec.ofChange Rows.originTrustSpec) :=
  OpenClaim.holds_of_cond 6 Tryz.f6 rfl rfl rfl rfl rfl rfl rfl ⟨rfl, rfl, rfl, rfl, rfl⟩ rfl rfl rfl rfl rfl (by kernel_rfl) Tryz.func6 (by kernel_rfl)
    (of_decide_eq_true (by kernel_rfl)) (by unfold Func.isWrapper; first | (rw [if_pos (by decide +kernel)]; kernel_rfl) | (rw [if_neg (by decide +kernel)]; exact ⟨rfl, rfl⟩))
    (fun os started H enc _ F => by rw [OpenClaim.pre_eq_preRow]; exact lifted os started H enc F)

/-- No parameter wants a stand-in; the program's own looks are on. -/
theorem plain (f : FuncId) (fn : Func) (hf : Tryz.pinned.checked.prog.funcNamed Rows.originTrustRow.func = some f) (hfn : Tryz.pinned.checked.prog.funcs[f]? = some fn) :
    true = Tryz.pinned.checked.prog.looks [] ∧ ∀ (j : Nat) t, fn.params[j]? = some t → Tryz.pinned.checked.prog.wantsStandIn t = false := by
  obtain rfl : f = 6 := Option.some.inj ((show Tryz.prog.funcNamed Rows.originTrustRow.func = some 6 by kernel_rfl).symm.trans hf) |>.symm
  obtain rfl : fn = Tryz.f6 := (Option.some.inj (Tryz.func6.symm.trans hfn)).symm
  refine ⟨by kernel_rfl, fun j t ht => ?_⟩
  rw [Tryz.params6] at ht
  obtain rfl : t = 27 := by simpa using Array.mem_of_getElem? ht
  · exact (show Tryz.prog.wantsStandIn 27 = false by kernel_rfl)

/-- The statement: the card. -/
theorem proved : Rows.OriginTrustCardSaid :=
  Claim7.holds_tied_plain_at .later [] _ _ _ _ said (fun _ h => by cases h) (by kernel_rfl) (fun _ h => by cases h) originTrust_row_tie rfl ⟨rfl, rfl⟩ (by kernel_rfl) rfl plain (by kernel_rfl)
#print axioms proved
end Go.Proofs.YtkhgdcpkhbpemaaGreatDoor.originTrust
