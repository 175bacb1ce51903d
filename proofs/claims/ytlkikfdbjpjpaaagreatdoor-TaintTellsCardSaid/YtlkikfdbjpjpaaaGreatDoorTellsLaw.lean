/-
  WHAT IS PROVED: the card of TaintTells: for any flag, any two addresses whose parts are few and short, and any request whose address is so and whose texts are short, the program tells whether it is tainted, crossed, quiet, and what it sends, and whether an address has a user, as the document's own functions do.
  CONDITIONS: none but the card's own: the listed tables read as their texts lay them; the flag, the addresses and the request are any.
-/
import Derived.Test.YtlkikfdbjpjpaaaGreatDoorCards
import Derived.Test.YtlkikfdbjpjpaaaGreatDoorTie
import Derived.WalkKit
import Derived.ProofKit
import Derived.OpenShut
import Derived.ShutString
import Derived.ChangeOld
import Derived.Below
import Derived.Deep.RegionHeld
import Derived.Laws.AppendOwnNone
import Derived.Test.YtlkikfdbjpjpaaaGreatDoorTnAwake
import Derived.Test.YtlkikfdbjpjpaaaGreatDoorRqOpen
import Derived.Test.YtlkikfdbjpjpaaaGreatDoorLaid
import Derived.Test.YtlkikfdbjpjpaaaGreatDoorHOpen
import Derived.Test.YtlkikfdbjpjpaaaGreatDoorTnRef
namespace Go.Proofs.YtlkikfdbjpjpaaaGreatDoor.taintTells
open Go.ChangeShapes Go.WideShapes Go.ChangeAt Go.RowKit
open Go.ChangeMaps (open_string shut_string)
open Go.Shelf
open Go.Proofs.YtlkikfdbjpjpaaaGreatDoor.Url
open Go.Proofs.YtlkikfdbjpjpaaaGreatDoor.Host (H)
open Go.Proofs.YtlkikfdbjpjpaaaGreatDoor.Path (Strs)
set_option linter.unusedSimpArgs false
set_option linter.unusedVariables false

theorem own : ownKnob Tryz.prog.godebug = none := by kernel_rfl
theorem laidOut : laidOutB Tryz.prog = true := by kernel_rfl

open Go.Proofs.YtlkikfdbjpjpaaaGreatDoor.Show
open Go.Proofs.YtlkikfdbjpjpaaaGreatDoor.Origin
set_option maxRecDepth 100000
set_option maxHeartbeats 16000000 in
theorem walk (a0 : Bool) (a1 : U) (v1 : Value) (l1 : a1.h.p.length = 8) (a2 : U) (v2 : Value) (l2 : a2.h.p.length = 8) (a3 : Req.R) (v3 x3 : Value) (l3 : Req.R8 a3) (m : Int) (w : World) (hm : Six.At m w) (s1 : Path.Strs w v1 a1.path) (p1 : (Lit.int .i64 a1.port).wf = true) (s2 : Path.Strs w v2 a2.path) (p2 : (Lit.int .i64 a2.port).wf = true) (s3 : Path.Strs w v3 a3.url.path) (y3 : x3.oneCell' = true) (p3 : (Lit.int .i64 a3.o.port).wf = true) :
    Calls Tryz.prog 3 #[.bool a0, .agg (cU a1 v1), .agg (cU a2 v2), .agg (Req.cR a3 v3 x3)] w fun e w' => e = .returned (.bool true) ∧ Below w.heap.size w w' := by
  have e1 : (w.alloc (.cells (cU a1 v1) 27)).heap.size = w.heap.size + 1 := Array.size_push _
  have e2 : ((w.alloc (.cells (cU a1 v1) 27)).alloc (.cells (cU a2 v2) 27)).heap.size = w.heap.size + 2 := by rw [show ((w.alloc (.cells (cU a1 v1) 27)).alloc (.cells (cU a2 v2) 27)).heap.size = (w.alloc (.cells (cU a1 v1) 27)).heap.size + 1 from Array.size_push _, e1]
  have b1 : Below w.heap.size w (w.alloc (.cells (cU a1 v1) 27)) := (Below.refl w.heap.size w).alloc (Nat.le_refl _) _
  have b2 : Below w.heap.size w ((w.alloc (.cells (cU a1 v1) 27)).alloc (.cells (cU a2 v2) 27)) := b1.alloc (by omega) _
  have b3 : Below w.heap.size w (((w.alloc (.cells (cU a1 v1) 27)).alloc (.cells (cU a2 v2) 27)).alloc (.cells (Req.cR a3 v3 x3) 32)) := b2.alloc (by omega) _
  have HX := Lib.hid b3
  have HU0 := Lib.hid (((UrlAt.new w a1 v1).past (.cells (cU a2 v2) 27)).past (.cells (Req.cR a3 v3 x3) 32))
  have HV0 := Lib.hid ((show UrlAt ((w.alloc (.cells (cU a1 v1) 27)).alloc (.cells (cU a2 v2) 27)) (w.heap.size + 1) a2 v2 from by rw [← e1]; exact UrlAt.new (w.alloc (.cells (cU a1 v1) 27)) a2 v2).past (.cells (Req.cR a3 v3 x3) 32))
  have HQ0 := Lib.hid (show Req.RAt (((w.alloc (.cells (cU a1 v1) 27)).alloc (.cells (cU a2 v2) 27)).alloc (.cells (Req.cR a3 v3 x3) 32)) (w.heap.size + 2) a3 v3 x3 from by rw [← e2]; exact Req.RAt.new ((w.alloc (.cells (cU a1 v1) 27)).alloc (.cells (cU a2 v2) 27)) a3 v3 x3)
  have HM0 := Lib.hid (hm.later HX.out)
  have HS0 := Lib.hid (s1.later HX.out)
  have HT0 := Lib.hid (s2.later HX.out)
  have HP0 := Lib.hid (s3.later HX.out)
  clear hm e1 e2 b1 b2 b3 s1 s2 s3
  go_enter Tryz.func3, Tryz.ntmps3
  go_wp2_with fail
  generalize (((w.alloc (.cells (cU a1 v1) 27)).alloc (.cells (cU a2 v2) 27)).alloc (.cells (Req.cR a3 v3 x3) 32)) = X0 at HX HM0 HU0 HV0 HQ0 HS0 HT0 HP0  ⊢
  refine (Taint.awake_calls m X0 HM0.out).mono ?_
  rintro e X1 ⟨rfl, hB⟩
  have HB1 := Lib.hid (hB)
  have HU1 := Lib.hid (HU0.out.later hB)
  have HV1 := Lib.hid (HV0.out.later hB)
  have HQ1 := Lib.hid (HQ0.out.later hB)
  have HM1 := Lib.hid (HM0.out.later hB)
  have HS1 := Lib.hid (HS0.out.later hB)
  have HT1 := Lib.hid (HT0.out.later hB)
  have HP1 := Lib.hid (HP0.out.later hB)
  clear HU0 HV0 HQ0 HM0 HS0 HT0 HP0
  clear hB
  obtain ⟨f1, hf1⟩ : ∃ b, fewU a1 = b := ⟨_, rfl⟩
  have hu := HU1.out
  go_wp2_with ((with_reducible refine wp_load27 (o := ⟨some 22, .load 27 (.tmp 5), _, _, _, _⟩) ?_ (.tmp 5) ?_ w.heap.size ?_ a1 v1 l1 hu ?_); (· rfl); (· rfl); (· rfl); simp only [Act.put, List.setIfInBounds_toArray, List.set_cons_zero, List.set_cons_succ])
  refine (few_any a1 v1 l1 f1 hf1 _ HS1.out).mono ?_
  rintro e X2 ⟨rfl, hB⟩
  have HB2 := Lib.hid (below_trans HB1.out hB)
  have HU2 := Lib.hid (HU1.out.later hB)
  have HV2 := Lib.hid (HV1.out.later hB)
  have HQ2 := Lib.hid (HQ1.out.later hB)
  have HM2 := Lib.hid (HM1.out.later hB)
  have HS2 := Lib.hid (HS1.out.later hB)
  have HT2 := Lib.hid (HT1.out.later hB)
  have HP2 := Lib.hid (HP1.out.later hB)
  clear HB1 HU1 HV1 HQ1 HM1 HS1 HT1 HP1
  clear hB hu
  obtain ⟨f2, hf2⟩ : ∃ b, fewU a2 = b := ⟨_, rfl⟩
  have hu := HV2.out
  go_wp2_with ((with_reducible refine wp_load27 (o := ⟨some 24, .load 27 (.tmp 6), _, _, _, _⟩) ?_ (.tmp 6) ?_ (w.heap.size + 1) ?_ a2 v2 l2 hu ?_); (· rfl); (· rfl); (· rfl); simp only [Act.put, List.setIfInBounds_toArray, List.set_cons_zero, List.set_cons_succ])
  refine (few_any a2 v2 l2 f2 hf2 _ HT2.out).mono ?_
  rintro e X3 ⟨rfl, hB⟩
  have HB3 := Lib.hid (below_trans HB2.out hB)
  have HU3 := Lib.hid (HU2.out.later hB)
  have HV3 := Lib.hid (HV2.out.later hB)
  have HQ3 := Lib.hid (HQ2.out.later hB)
  have HM3 := Lib.hid (HM2.out.later hB)
  have HS3 := Lib.hid (HS2.out.later hB)
  have HT3 := Lib.hid (HT2.out.later hB)
  have HP3 := Lib.hid (HP2.out.later hB)
  clear HB2 HU2 HV2 HQ2 HM2 HS2 HT2 HP2
  clear hB hu
  obtain ⟨f3, hf3⟩ : ∃ b, Req.fewR a3 = b := ⟨_, rfl⟩
  have hu := HQ3.out
  go_wp2_with ((with_reducible refine Req.wp_load32 (o := ⟨some 26, .load 32 (.tmp 7), _, _, _, _⟩) ?_ (.tmp 7) ?_ (w.heap.size + 2) ?_ a3 v3 x3 l3 hu ?_); (· rfl); (· rfl); (· rfl); simp only [Act.put, List.setIfInBounds_toArray, List.set_cons_zero, List.set_cons_succ])
  refine (Req.few_req_any a3 v3 x3 l3 f3 hf3 _ HP3.out).mono ?_
  rintro e X4 ⟨rfl, hB⟩
  have HB4 := Lib.hid (below_trans HB3.out hB)
  have HU4 := Lib.hid (HU3.out.later hB)
  have HV4 := Lib.hid (HV3.out.later hB)
  have HQ4 := Lib.hid (HQ3.out.later hB)
  have HM4 := Lib.hid (HM3.out.later hB)
  have HS4 := Lib.hid (HS3.out.later hB)
  have HT4 := Lib.hid (HT3.out.later hB)
  have HP4 := Lib.hid (HP3.out.later hB)
  clear HB3 HU3 HV3 HQ3 HM3 HS3 HT3 HP3
  clear hB hu
  cases f1
  · go_wp2
    go_ret
    exact ⟨rfl, HX.out.trans (HB4.out.mono HX.out.size)⟩
  cases f2
  · go_wp2
    go_ret
    exact ⟨rfl, HX.out.trans (HB4.out.mono HX.out.size)⟩
  cases f3
  · go_wp2
    go_ret
    exact ⟨rfl, HX.out.trans (HB4.out.mono HX.out.size)⟩
  have F1 := few_fit a1 l1 hf1
  have F2 := few_fit a2 l2 hf2
  have P1 : ∀ t ∈ a1.path, t.length ≤ 30000 := fun t ht => Nat.le_trans ((Req.few_path hf1).2 t ht) (by decide)
  have P2 : ∀ t ∈ a2.path, t.length ≤ 30000 := fun t ht => Nat.le_trans ((Req.few_path hf2).2 t ht) (by decide)
  have Q3 := (Req.few_req a3 l3 p3 hf3).1
  obtain ⟨b, hb⟩ : ∃ b, Taint.sendsB a3 = b := ⟨_, rfl⟩
  obtain ⟨X, hX⟩ : ∃ x, tb (Taint.sendsT a3) = x := ⟨_, rfl⟩
  obtain ⟨t, ht⟩ : ∃ b, Taint.taintB a0 a3.o a1 a2 = b := ⟨_, rfl⟩
  obtain ⟨c, hc⟩ : ∃ b, Taint.crossB a3 = b := ⟨_, rfl⟩
  obtain ⟨d, hd⟩ : ∃ b, Taint.credsB a1 = b := ⟨_, rfl⟩
  obtain ⟨q, hq⟩ : ∃ b, Taint.quietB a3 = b := ⟨_, rfl⟩
  have C1 := Lib.hid (fun z hm hs => Taint.sends_any a3 v3 x3 Q3 y3 b hb X hX m z hm hs)
  have C2 := Lib.hid (fun z hs => Taint.refSends_any a3 v3 x3 Q3 b hb X hX z hs)
  have C3 := Lib.hid (fun z hs ht' => Taint.refTaint_any a0 a3.o a1 a2 v1 v2 l3.o Q3.os F1 F2 P1 P2 t ht z hs ht')
  have C4 := Lib.hid (fun z hs => Taint.refCrossed_any a3 v3 x3 Q3 c hc z hs)
  have C5 := Lib.hid (fun z => Taint.refCreds_any a1 v1 l1 d hd z)
  have C6 := Lib.hid (fun z hs => Taint.refQuiet_any a3 v3 x3 Q3 q hq z hs)
  have D3 := Lib.hid (fun z hm hs ht' => Taint.taint_any a0 a3.o a1 a2 v1 v2 l3.o Q3.os Q3.ol F1 F2 t ht m z hm hs ht')
  have D4 := Lib.hid (fun z hm hs => Taint.crossed_any a3 v3 x3 Q3 y3 c hc m z hm hs)
  have D5 := Lib.hid (fun z => Taint.creds_any a1 v1 l1 d hd z)
  have D6 := Lib.hid (fun z hm hs => Taint.quiet_any a3 v3 x3 Q3 y3 q hq m z hm hs)
  have e1 : (X.toList == X.toList) = true := beq_iff_eq.2 rfl
  have e2 : (b == b) = true := beq_self_eq_true b
  have e3 : (t == t) = true := beq_self_eq_true t
  have e4 : (c == c) = true := beq_self_eq_true c
  have e5 : (d == d) = true := beq_self_eq_true d
  have e6 : (q == q) = true := beq_self_eq_true q
  clear hf1 hf2 hf3 F1 F2 P1 P2 Q3 hb hX ht hc hd hq
  have hu := HQ4.out
  go_wp2_with ((with_reducible refine Req.wp_load32 (o := ⟨some 44, .load 32 (.tmp 7), _, _, _, _⟩) ?_ (.tmp 7) ?_ (w.heap.size + 2) ?_ a3 v3 x3 l3 hu ?_); (· rfl); (· rfl); (· rfl); simp only [Act.put, List.setIfInBounds_toArray, List.set_cons_zero, List.set_cons_succ])
  refine (C1.out _ HM4.out HP4.out).mono ?_
  rintro e X5 ⟨rfl, hB⟩
  have HB5 := Lib.hid (below_trans HB4.out hB)
  have HU5 := Lib.hid (HU4.out.later hB)
  have HV5 := Lib.hid (HV4.out.later hB)
  have HQ5 := Lib.hid (HQ4.out.later hB)
  have HM5 := Lib.hid (HM4.out.later hB)
  have HS5 := Lib.hid (HS4.out.later hB)
  have HT5 := Lib.hid (HT4.out.later hB)
  have HP5 := Lib.hid (HP4.out.later hB)
  clear HB4 HU4 HV4 HQ4 HM4 HS4 HT4 HP4
  clear hB C1 hu
  have hu := HQ5.out
  go_wp2_with ((with_reducible refine Req.wp_load32 (o := ⟨some 49, .load 32 (.tmp 7), _, _, _, _⟩) ?_ (.tmp 7) ?_ (w.heap.size + 2) ?_ a3 v3 x3 l3 hu ?_); (· rfl); (· rfl); (· rfl); simp only [Act.put, List.setIfInBounds_toArray, List.set_cons_zero, List.set_cons_succ])
  refine (C2.out _ HP5.out).mono ?_
  rintro e X6 ⟨rfl, hB⟩
  have HB6 := Lib.hid (below_trans HB5.out hB)
  have HU6 := Lib.hid (HU5.out.later hB)
  have HV6 := Lib.hid (HV5.out.later hB)
  have HQ6 := Lib.hid (HQ5.out.later hB)
  have HM6 := Lib.hid (HM5.out.later hB)
  have HS6 := Lib.hid (HS5.out.later hB)
  have HT6 := Lib.hid (HT5.out.later hB)
  have HP6 := Lib.hid (HP5.out.later hB)
  clear HB5 HU5 HV5 HQ5 HM5 HS5 HT5 HP5
  clear hB C2 hu
  have hu := HQ6.out
  have hv := HU6.out
  have hw := HV6.out
  go_wp2_with (first | ((with_reducible refine Req.wp_load29r (o := ⟨some 55, .load 30 (.tmp 54), _, _, _, _⟩) ?_ (.tmp 54) ?_ (w.heap.size + 2) ?_ a3 v3 x3 l3 hu ?_); (· rfl); (· rfl); (· rfl); simp only [Act.put, List.setIfInBounds_toArray, List.set_cons_zero, List.set_cons_succ]) | ((with_reducible refine wp_load27 (o := ⟨some 56, .load 27 (.tmp 5), _, _, _, _⟩) ?_ (.tmp 5) ?_ w.heap.size ?_ a1 v1 l1 hv ?_); (· rfl); (· rfl); (· rfl); simp only [Act.put, List.setIfInBounds_toArray, List.set_cons_zero, List.set_cons_succ]) | ((with_reducible refine wp_load27 (o := ⟨some 57, .load 27 (.tmp 6), _, _, _, _⟩) ?_ (.tmp 6) ?_ (w.heap.size + 1) ?_ a2 v2 l2 hw ?_); (· rfl); (· rfl); (· rfl); simp only [Act.put, List.setIfInBounds_toArray, List.set_cons_zero, List.set_cons_succ]))
  refine (C3.out _ HS6.out HT6.out).mono ?_
  rintro e X7 ⟨rfl, hB⟩
  have HB7 := Lib.hid (below_trans HB6.out hB)
  have HU7 := Lib.hid (HU6.out.later hB)
  have HV7 := Lib.hid (HV6.out.later hB)
  have HQ7 := Lib.hid (HQ6.out.later hB)
  have HM7 := Lib.hid (HM6.out.later hB)
  have HS7 := Lib.hid (HS6.out.later hB)
  have HT7 := Lib.hid (HT6.out.later hB)
  have HP7 := Lib.hid (HP6.out.later hB)
  clear HB6 HU6 HV6 HQ6 HM6 HS6 HT6 HP6
  clear hB C3 hu hv hw
  have hu := HQ7.out
  go_wp2_with ((with_reducible refine Req.wp_load32 (o := ⟨some 59, .load 32 (.tmp 7), _, _, _, _⟩) ?_ (.tmp 7) ?_ (w.heap.size + 2) ?_ a3 v3 x3 l3 hu ?_); (· rfl); (· rfl); (· rfl); simp only [Act.put, List.setIfInBounds_toArray, List.set_cons_zero, List.set_cons_succ])
  refine (C4.out _ HP7.out).mono ?_
  rintro e X8 ⟨rfl, hB⟩
  have HB8 := Lib.hid (below_trans HB7.out hB)
  have HU8 := Lib.hid (HU7.out.later hB)
  have HV8 := Lib.hid (HV7.out.later hB)
  have HQ8 := Lib.hid (HQ7.out.later hB)
  have HM8 := Lib.hid (HM7.out.later hB)
  have HS8 := Lib.hid (HS7.out.later hB)
  have HT8 := Lib.hid (HT7.out.later hB)
  have HP8 := Lib.hid (HP7.out.later hB)
  clear HB7 HU7 HV7 HQ7 HM7 HS7 HT7 HP7
  clear hB C4 hu
  have hu := HU8.out
  go_wp2_with ((with_reducible refine wp_load27 (o := ⟨some 61, .load 27 (.tmp 5), _, _, _, _⟩) ?_ (.tmp 5) ?_ w.heap.size ?_ a1 v1 l1 hu ?_); (· rfl); (· rfl); (· rfl); simp only [Act.put, List.setIfInBounds_toArray, List.set_cons_zero, List.set_cons_succ])
  refine (C5.out _).mono ?_
  rintro e X9 ⟨rfl, hB⟩
  have HB9 := Lib.hid (below_trans HB8.out hB)
  have HU9 := Lib.hid (HU8.out.later hB)
  have HV9 := Lib.hid (HV8.out.later hB)
  have HQ9 := Lib.hid (HQ8.out.later hB)
  have HM9 := Lib.hid (HM8.out.later hB)
  have HS9 := Lib.hid (HS8.out.later hB)
  have HT9 := Lib.hid (HT8.out.later hB)
  have HP9 := Lib.hid (HP8.out.later hB)
  clear HB8 HU8 HV8 HQ8 HM8 HS8 HT8 HP8
  clear hB C5 hu
  have hu := HQ9.out
  go_wp2_with ((with_reducible refine Req.wp_load32 (o := ⟨some 63, .load 32 (.tmp 7), _, _, _, _⟩) ?_ (.tmp 7) ?_ (w.heap.size + 2) ?_ a3 v3 x3 l3 hu ?_); (· rfl); (· rfl); (· rfl); simp only [Act.put, List.setIfInBounds_toArray, List.set_cons_zero, List.set_cons_succ])
  refine (C6.out _ HP9.out).mono ?_
  rintro e XA ⟨rfl, hB⟩
  have HB10 := Lib.hid (below_trans HB9.out hB)
  have HU10 := Lib.hid (HU9.out.later hB)
  have HV10 := Lib.hid (HV9.out.later hB)
  have HQ10 := Lib.hid (HQ9.out.later hB)
  have HM10 := Lib.hid (HM9.out.later hB)
  have HS10 := Lib.hid (HS9.out.later hB)
  have HT10 := Lib.hid (HT9.out.later hB)
  have HP10 := Lib.hid (HP9.out.later hB)
  clear HB9 HU9 HV9 HQ9 HM9 HS9 HT9 HP9
  clear hB C6 hu
  have hu := HQ10.out
  have hv := HU10.out
  have hw := HV10.out
  go_wp2_with (first | ((with_reducible refine Req.wp_load29r (o := ⟨some 76, .load 30 (.tmp 75), _, _, _, _⟩) ?_ (.tmp 75) ?_ (w.heap.size + 2) ?_ a3 v3 x3 l3 hu ?_); (· rfl); (· rfl); (· rfl); simp only [Act.put, List.setIfInBounds_toArray, List.set_cons_zero, List.set_cons_succ]) | ((with_reducible refine wp_load27 (o := ⟨some 77, .load 27 (.tmp 5), _, _, _, _⟩) ?_ (.tmp 5) ?_ w.heap.size ?_ a1 v1 l1 hv ?_); (· rfl); (· rfl); (· rfl); simp only [Act.put, List.setIfInBounds_toArray, List.set_cons_zero, List.set_cons_succ]) | ((with_reducible refine wp_load27 (o := ⟨some 78, .load 27 (.tmp 6), _, _, _, _⟩) ?_ (.tmp 6) ?_ (w.heap.size + 1) ?_ a2 v2 l2 hw ?_); (· rfl); (· rfl); (· rfl); simp only [Act.put, List.setIfInBounds_toArray, List.set_cons_zero, List.set_cons_succ]))
  refine (D3.out _ HM10.out HS10.out HT10.out).mono ?_
  rintro e XB ⟨rfl, hB⟩
  have HB11 := Lib.hid (below_trans HB10.out hB)
  have HU11 := Lib.hid (HU10.out.later hB)
  have HV11 := Lib.hid (HV10.out.later hB)
  have HQ11 := Lib.hid (HQ10.out.later hB)
  have HM11 := Lib.hid (HM10.out.later hB)
  have HS11 := Lib.hid (HS10.out.later hB)
  have HT11 := Lib.hid (HT10.out.later hB)
  have HP11 := Lib.hid (HP10.out.later hB)
  clear HB10 HU10 HV10 HQ10 HM10 HS10 HT10 HP10
  clear hB D3 hu hv hw
  have hu := HQ11.out
  go_wp2_with ((with_reducible refine Req.wp_load32 (o := ⟨some 84, .load 32 (.tmp 7), _, _, _, _⟩) ?_ (.tmp 7) ?_ (w.heap.size + 2) ?_ a3 v3 x3 l3 hu ?_); (· rfl); (· rfl); (· rfl); simp only [Act.put, List.setIfInBounds_toArray, List.set_cons_zero, List.set_cons_succ])
  refine (D4.out _ HM11.out HP11.out).mono ?_
  rintro e XC ⟨rfl, hB⟩
  have HB12 := Lib.hid (below_trans HB11.out hB)
  have HU12 := Lib.hid (HU11.out.later hB)
  have HV12 := Lib.hid (HV11.out.later hB)
  have HQ12 := Lib.hid (HQ11.out.later hB)
  have HM12 := Lib.hid (HM11.out.later hB)
  have HS12 := Lib.hid (HS11.out.later hB)
  have HT12 := Lib.hid (HT11.out.later hB)
  have HP12 := Lib.hid (HP11.out.later hB)
  clear HB11 HU11 HV11 HQ11 HM11 HS11 HT11 HP11
  clear hB D4 hu
  have hu := HU12.out
  go_wp2_with ((with_reducible refine wp_load27 (o := ⟨some 90, .load 27 (.tmp 5), _, _, _, _⟩) ?_ (.tmp 5) ?_ w.heap.size ?_ a1 v1 l1 hu ?_); (· rfl); (· rfl); (· rfl); simp only [Act.put, List.setIfInBounds_toArray, List.set_cons_zero, List.set_cons_succ])
  refine (D5.out _).mono ?_
  rintro e XD ⟨rfl, hB⟩
  have HB13 := Lib.hid (below_trans HB12.out hB)
  have HU13 := Lib.hid (HU12.out.later hB)
  have HV13 := Lib.hid (HV12.out.later hB)
  have HQ13 := Lib.hid (HQ12.out.later hB)
  have HM13 := Lib.hid (HM12.out.later hB)
  have HS13 := Lib.hid (HS12.out.later hB)
  have HT13 := Lib.hid (HT12.out.later hB)
  have HP13 := Lib.hid (HP12.out.later hB)
  clear HB12 HU12 HV12 HQ12 HM12 HS12 HT12 HP12
  clear hB D5 hu
  have hu := HQ13.out
  go_wp2_with ((with_reducible refine Req.wp_load32 (o := ⟨some 96, .load 32 (.tmp 7), _, _, _, _⟩) ?_ (.tmp 7) ?_ (w.heap.size + 2) ?_ a3 v3 x3 l3 hu ?_); (· rfl); (· rfl); (· rfl); simp only [Act.put, List.setIfInBounds_toArray, List.set_cons_zero, List.set_cons_succ])
  refine (D6.out _ HM13.out HP13.out).mono ?_
  rintro e XE ⟨rfl, hB⟩
  have HB14 := Lib.hid (below_trans HB13.out hB)
  have HU14 := Lib.hid (HU13.out.later hB)
  have HV14 := Lib.hid (HV13.out.later hB)
  have HQ14 := Lib.hid (HQ13.out.later hB)
  have HM14 := Lib.hid (HM13.out.later hB)
  have HS14 := Lib.hid (HS13.out.later hB)
  have HT14 := Lib.hid (HT13.out.later hB)
  have HP14 := Lib.hid (HP13.out.later hB)
  clear HB13 HU13 HV13 HQ13 HM13 HS13 HT13 HP13
  clear hB D6 hu
  go_wp2
  go_ret
  exact ⟨rfl, HX.out.trans (HB14.out.mono HX.out.size)⟩

/-! ### The row's step -/
theorem reads (os : Os) {H : Type} (enc : TypeId × Value → H) : (DataW.whole enc Tryz.prog ((Card.laidWorld os).forCall (fun _ _ => 0) ⟨#[], #[.bool false, .agg #[.string ByteArray.empty, .string ByteArray.empty, .string ByteArray.empty, .int .i64 0, .string ByteArray.empty, .int .i64 0, .int .i64 0, .int .i64 0, .int .i64 0, .int .i64 0, .int .i64 0, .int .i64 0, .int .i64 0, .int .i64 0, .int .i64 0, .slice none 0 0, .string ByteArray.empty, .string ByteArray.empty, .string ByteArray.empty, .bool false, .bool false], .agg #[.string ByteArray.empty, .string ByteArray.empty, .string ByteArray.empty, .int .i64 0, .string ByteArray.empty, .int .i64 0, .int .i64 0, .int .i64 0, .int .i64 0, .int .i64 0, .int .i64 0, .int .i64 0, .int .i64 0, .int .i64 0, .int .i64 0, .slice none 0 0, .string ByteArray.empty, .string ByteArray.empty, .string ByteArray.empty, .bool false, .bool false], .agg (Req.cR Req.zeroR (.slice none 0 0) (.slice none 0 0))], []⟩).memory Tryz.f3.params.toList Rows.taintTellsSpec.vars false (#[.bool false, .agg #[.string ByteArray.empty, .string ByteArray.empty, .string ByteArray.empty, .int .i64 0, .string ByteArray.empty, .int .i64 0, .int .i64 0, .int .i64 0, .int .i64 0, .int .i64 0, .int .i64 0, .int .i64 0, .int .i64 0, .int .i64 0, .int .i64 0, .slice none 0 0, .string ByteArray.empty, .string ByteArray.empty, .string ByteArray.empty, .bool false, .bool false], .agg #[.string ByteArray.empty, .string ByteArray.empty, .string ByteArray.empty, .int .i64 0, .string ByteArray.empty, .int .i64 0, .int .i64 0, .int .i64 0, .int .i64 0, .int .i64 0, .int .i64 0, .int .i64 0, .int .i64 0, .int .i64 0, .int .i64 0, .slice none 0 0, .string ByteArray.empty, .string ByteArray.empty, .string ByteArray.empty, .bool false, .bool false], .agg (Req.cR Req.zeroR (.slice none 0 0) (.slice none 0 0))] : Array Value).toList 8).map (fun x => (x.1, x.2.1)) = some ([.lit (.bool false), .agg [.lit (.string []), .lit (.string []), .lit (.string []), .agg [.lit (.int .i64 0), .lit (.string []), .lit (.int .i64 0), .agg [.lit (.int .i64 0), .lit (.int .i64 0), .lit (.int .i64 0), .lit (.int .i64 0), .lit (.int .i64 0), .lit (.int .i64 0), .lit (.int .i64 0), .lit (.int .i64 0)]], .lit (.int .i64 0), .nil, .lit (.string []), .lit (.string []), .lit (.string []), .lit (.bool false), .lit (.bool false)], .agg [.lit (.string []), .lit (.string []), .lit (.string []), .agg [.lit (.int .i64 0), .lit (.string []), .lit (.int .i64 0), .agg [.lit (.int .i64 0), .lit (.int .i64 0), .lit (.int .i64 0), .lit (.int .i64 0), .lit (.int .i64 0), .lit (.int .i64 0), .lit (.int .i64 0), .lit (.int .i64 0)]], .lit (.int .i64 0), .nil, .lit (.string []), .lit (.string []), .lit (.string []), .lit (.bool false), .lit (.bool false)], .agg [.agg [.lit (.string []), .lit (.string []), .lit (.string []), .agg [.lit (.int .i64 0), .lit (.string []), .lit (.int .i64 0), .agg [.lit (.int .i64 0), .lit (.int .i64 0), .lit (.int .i64 0), .lit (.int .i64 0), .lit (.int .i64 0), .lit (.int .i64 0), .lit (.int .i64 0), .lit (.int .i64 0)]], .lit (.int .i64 0), .nil, .lit (.string []), .lit (.string []), .lit (.string []), .lit (.bool false), .lit (.bool false)], .lit (.string []), .nil, .lit (.bool false), .agg [.lit (.bool false), .lit (.string []), .agg [.lit (.int .i64 0), .lit (.string []), .lit (.int .i64 0), .agg [.lit (.int .i64 0), .lit (.int .i64 0), .lit (.int .i64 0), .lit (.int .i64 0), .lit (.int .i64 0), .lit (.int .i64 0), .lit (.int .i64 0), .lit (.int .i64 0)]], .lit (.int .i64 0)], .lit (.int .i64 0), .lit (.int .i64 0), .lit (.int .i64 0), .lit (.string []), .lit (.bool false), .lit (.bool false), .lit (.int .i64 0)]], []) := by kernel_rfl
set_option maxRecDepth 100000 in
theorem lifted (os : Os) (started : os.Started) (H : Type) (enc : TypeId × Value → H) (F : Stop.Interp) :
    ReturnsInHanded {} Tryz.checked os 3 .any ((OpenSpec.ofChange Rows.taintTellsSpec).preRow enc Tryz.prog Tryz.f3 Rows.taintTellsRow.domain false Rows.taintTellsRow.laid) (((OpenSpec.ofChange Rows.taintTellsSpec).at F).post enc Tryz.prog Tryz.f3 false true false false) := by
  obtain ⟨⟨x1, x2, x3⟩, hx, hx1⟩ := Option.map_eq_some_iff.1 (reads os enc)
  simp only [Prod.mk.injEq] at hx1
  obtain ⟨rfl, rfl⟩ := hx1
  refine returnsInHanded_of_row (C := Tryz.checked) (s := OpenSpec.ofChange Rows.taintTellsSpec) own started (by kernel_rfl) Tryz.func3
    (witness_row_at (enc := enc) (C := Tryz.checked) false (Card.laidWorld os) #[.bool false, .agg #[.string ByteArray.empty, .string ByteArray.empty, .string ByteArray.empty, .int .i64 0, .string ByteArray.empty, .int .i64 0, .int .i64 0, .int .i64 0, .int .i64 0, .int .i64 0, .int .i64 0, .int .i64 0, .int .i64 0, .int .i64 0, .int .i64 0, .slice none 0 0, .string ByteArray.empty, .string ByteArray.empty, .string ByteArray.empty, .bool false, .bool false], .agg #[.string ByteArray.empty, .string ByteArray.empty, .string ByteArray.empty, .int .i64 0, .string ByteArray.empty, .int .i64 0, .int .i64 0, .int .i64 0, .int .i64 0, .int .i64 0, .int .i64 0, .int .i64 0, .int .i64 0, .int .i64 0, .int .i64 0, .slice none 0 0, .string ByteArray.empty, .string ByteArray.empty, .string ByteArray.empty, .bool false, .bool false], .agg (Req.cR Req.zeroR (.slice none 0 0) (.slice none 0 0))] rfl (by kernel_rfl) (by kernel_rfl) (by kernel_rfl)
      (OpenSpec.preRow_of_cond 8 hx (by kernel_rfl) (fun k hk => by cases hk) (by kernel_rfl) (Card.laid_met os _))) ?_
  intro W base args ds gs before hval0 hW _ _ _ hL hsh _
  obtain ⟨m, hmax⟩ := Card.maxLen_int hsh
  have hm : Six.At m W := ⟨hmax, fun _ => Six.tab_of hL⟩
  have hval : ∀ (j : Nat) t v, Tryz.f3.params[j]? = some t → args[j]? = some v → Value.okWide Tryz.prog W .any base t v := hval0
  have hW' := hW
  obtain ⟨p, q, hA0, hV, rfl, hfz, hnd⟩ := hW
  have hA : DataW.TrodAll enc Tryz.prog W 0 (fun _ => true) true Tryz.f3.params.toList args.toList ds p := hA0
  rw [Tryz.params3] at hA hval
  obtain ⟨v0, vs0, d0, ds0, p0, q0, hargs0, rfl, rfl, t0, r0⟩ := trodAll_cons hA
  obtain ⟨v1, vs1, d1, ds1, p1, q1, hargs1, rfl, rfl, t1, r1⟩ := trodAll_cons r0
  obtain ⟨v2, vs2, d2, ds2, p2, q2, hargs2, rfl, rfl, t2, r2⟩ := trodAll_cons r1
  obtain ⟨v3, vs3, d3, ds3, p3, q3, hargs3, rfl, rfl, t3, r3⟩ := trodAll_cons r2
  obtain ⟨rfl, rfl, rfl⟩ := trodAll_nil r3
  obtain rfl : args = #[v0, v1, v2, v3] := by cases args; simp_all
  obtain ⟨rfl, rfl⟩ := trodVars_none hV
  obtain ⟨a0, rfl, rfl, rfl⟩ := Go.RowKit.open_bool Tryz.underlying4 (hval 0 4 v0 rfl rfl) t0
  have k1 := t1
  have lt1 : ∀ x ∈ p1, x.block < W.heap.size := by obtain ⟨m, hm⟩ := k1; exact DataW.trod_lt m _ _ _ hm
  obtain ⟨a1, pv1, l1, rfl, z1, w1⟩ := Url.open_url (hval 1 27 v1 rfl rfl) t1
  have k2 := t2
  have lt2 : ∀ x ∈ p2, x.block < W.heap.size := by obtain ⟨m, hm⟩ := k2; exact DataW.trod_lt m _ _ _ hm
  obtain ⟨a2, pv2, l2, rfl, z2, w2⟩ := Url.open_url (hval 2 27 v2 rfl rfl) t2
  have k3 := t3
  have lt3 : ∀ x ∈ p3, x.block < W.heap.size := by obtain ⟨m, hm⟩ := k3; exact DataW.trod_lt m _ _ _ hm
  obtain ⟨a3, pv3, xv3, l3, rfl, z3, w3, y3⟩ := Req.open_req (hval 3 32 v3 rfl rfl) t3
  clear hA0 hval0
  simp only [List.append_nil] at hW'
  refine (walk a0 a1 pv1 l1 a2 pv2 l2 a3 pv3 xv3 l3  m W hm z1 w1 z2 w2 z3 w3 y3).mono fun e W' ⟨he, bel⟩ => ?_
  subst he
  exact ⟨_, rfl, _, _, _, [], _, [], hW', trodAll_mk1 (shut_bool Tryz.underlying4 _), (trodAll_cons_mk (shut_bool Tryz.underlying4 a0) (trodAll_cons_mk (Below.trod laidOut (by kernel_rfl) (of_decide_eq_true (by kernel_rfl)) k1 bel lt1) (trodAll_cons_mk (Below.trod laidOut (by kernel_rfl) (of_decide_eq_true (by kernel_rfl)) k2 bel lt2) (trodAll_cons_mk (Below.trod laidOut (by kernel_rfl) (of_decide_eq_true (by kernel_rfl)) k3 bel lt3) trodAll_mk0)))), rfl, bel.frame _, fun h => by cases h⟩

theorem said : Rows.taintTellsRow.holds Tryz.pinned (OpenSpec.ofChange Rows.taintTellsSpec) :=
  OpenClaim.holds_of_cond 3 Tryz.f3 rfl rfl rfl rfl rfl rfl rfl ⟨rfl, rfl, rfl, rfl, rfl⟩ rfl rfl rfl rfl rfl (by kernel_rfl) Tryz.func3 (by kernel_rfl)
    (of_decide_eq_true (by kernel_rfl)) (by unfold Func.isWrapper; first | (rw [if_pos (by decide +kernel)]; kernel_rfl) | (rw [if_neg (by decide +kernel)]; exact ⟨rfl, rfl⟩))
    (fun os started H enc _ F => by rw [OpenClaim.pre_eq_preRow]; exact lifted os started H enc F)

/-- No parameter wants a stand-in; the program's own looks are on. -/
theorem plain (f : FuncId) (fn : Func) (hf : Tryz.pinned.checked.prog.funcNamed Rows.taintTellsRow.func = some f) (hfn : Tryz.pinned.checked.prog.funcs[f]? = some fn) :
    true = Tryz.pinned.checked.prog.looks [] ∧ ∀ (j : Nat) t, fn.params[j]? = some t → Tryz.pinned.checked.prog.wantsStandIn t = false := by
  obtain rfl : f = 3 := Option.some.inj ((show Tryz.prog.funcNamed Rows.taintTellsRow.func = some 3 by kernel_rfl).symm.trans hf) |>.symm
  obtain rfl : fn = Tryz.f3 := (Option.some.inj (Tryz.func3.symm.trans hfn)).symm
  refine ⟨by kernel_rfl, fun j t ht => ?_⟩
  rw [Tryz.params3] at ht
  obtain rfl | rfl | rfl : t = 4 ∨ t = 27 ∨ t = 32 := by simpa using Array.mem_of_getElem? ht
  · exact (show Tryz.prog.wantsStandIn 4 = false by kernel_rfl)
  · exact (show Tryz.prog.wantsStandIn 27 = false by kernel_rfl)
  · exact (show Tryz.prog.wantsStandIn 32 = false by kernel_rfl)

/-- The statement: the card. -/
theorem proved : Rows.TaintTellsCardSaid :=
  Claim7.holds_tied_plain_at .later [] _ _ _ _ said (fun _ h => by cases h) (by kernel_rfl) (fun _ h => by cases h) taintTells_row_tie rfl ⟨rfl, rfl⟩ (by kernel_rfl) rfl plain (by kernel_rfl)
#print axioms proved
end Go.Proofs.YtlkikfdbjpjpaaaGreatDoor.taintTells
