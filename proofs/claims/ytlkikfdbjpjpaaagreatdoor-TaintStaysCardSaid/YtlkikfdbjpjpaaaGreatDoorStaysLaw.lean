/-
  WHAT IS PROVED: the card of TaintStays: for any origin and any two addresses whose parts are few and short: what is tainted stays so; nothing is tainted as long as it stays at one origin, or goes from the origin of who asks, and all else is.
  CONDITIONS: none but the card's own: the listed tables read as their texts lay them; the origin and the addresses are any.
-/
import Derived.Test.YtlkikfdbjpjpaaaGreatDoorCards
import Derived.Test.YtlkikfdbjpjpaaaGreatDoorTie
import Derived.WalkKit
import Derived.ProofKit
import Derived.OpenShut
import Derived.ShutString
import Derived.ChangeOld
import Derived.Below
import Derived.Deep.RegionHeld
import Derived.Laws.AppendOwnNone
import Derived.Test.YtlkikfdbjpjpaaaGreatDoorTnAwake
import Derived.Test.YtlkikfdbjpjpaaaGreatDoorRqOpen
import Derived.Test.YtlkikfdbjpjpaaaGreatDoorLaid
import Derived.Test.YtlkikfdbjpjpaaaGreatDoorHOpen
namespace Go.Proofs.YtlkikfdbjpjpaaaGreatDoor.taintStays
open Go.ChangeShapes Go.WideShapes Go.ChangeAt Go.RowKit
open Go.ChangeMaps (open_string shut_string)
open Go.Shelf
open Go.Proofs.YtlkikfdbjpjpaaaGreatDoor.Url
open Go.Proofs.YtlkikfdbjpjpaaaGreatDoor.Host (H)
open Go.Proofs.YtlkikfdbjpjpaaaGreatDoor.Path (Strs)
set_option linter.unusedSimpArgs false
set_option linter.unusedVariables false

theorem own : ownKnob Tryz.prog.godebug = none := by kernel_rfl
theorem laidOut : laidOutB Tryz.prog = true := by kernel_rfl

open Go.Proofs.YtlkikfdbjpjpaaaGreatDoor.Show
open Go.Proofs.YtlkikfdbjpjpaaaGreatDoor.Origin
set_option maxRecDepth 100000
set_option maxHeartbeats 16000000 in
theorem walk (a0 : O) (l0 : a0.h.p.length = 8) (a1 : U) (v1 : Value) (l1 : a1.h.p.length = 8) (a2 : U) (v2 : Value) (l2 : a2.h.p.length = 8) (w0 : (Lit.int .i64 a0.port).wf = true) (m : Int) (w : World) (hm : Six.At m w) (s1 : Path.Strs w v1 a1.path) (p1 : (Lit.int .i64 a1.port).wf = true) (s2 : Path.Strs w v2 a2.path) (p2 : (Lit.int .i64 a2.port).wf = true) :
    Calls Tryz.prog 4 #[.agg (cO a0), .agg (cU a1 v1), .agg (cU a2 v2)] w fun e w' => e = .returned (.bool true) ∧ Below w.heap.size w w' := by
  have e1 : (w.alloc (.cells (cO a0) 30)).heap.size = w.heap.size + 1 := Array.size_push _
  have e2 : ((w.alloc (.cells (cO a0) 30)).alloc (.cells (cU a1 v1) 27)).heap.size = w.heap.size + 2 := by rw [show ((w.alloc (.cells (cO a0) 30)).alloc (.cells (cU a1 v1) 27)).heap.size = (w.alloc (.cells (cO a0) 30)).heap.size + 1 from Array.size_push _, e1]
  have b1 : Below w.heap.size w (w.alloc (.cells (cO a0) 30)) := (Below.refl w.heap.size w).alloc (Nat.le_refl _) _
  have b2 : Below w.heap.size w ((w.alloc (.cells (cO a0) 30)).alloc (.cells (cU a1 v1) 27)) := b1.alloc (by omega) _
  have b3 : Below w.heap.size w (((w.alloc (.cells (cO a0) 30)).alloc (.cells (cU a1 v1) 27)).alloc (.cells (cU a2 v2) 27)) := b2.alloc (by omega) _
  have HX := Lib.hid b3
  have HO0 := Lib.hid (((OAt.new w a0).past (.cells (cU a1 v1) 27)).past (.cells (cU a2 v2) 27))
  have HU0 := Lib.hid ((show UrlAt ((w.alloc (.cells (cO a0) 30)).alloc (.cells (cU a1 v1) 27)) (w.heap.size + 1) a1 v1 from by rw [← e1]; exact UrlAt.new (w.alloc (.cells (cO a0) 30)) a1 v1).past (.cells (cU a2 v2) 27))
  have HV0 := Lib.hid (show UrlAt (((w.alloc (.cells (cO a0) 30)).alloc (.cells (cU a1 v1) 27)).alloc (.cells (cU a2 v2) 27)) (w.heap.size + 2) a2 v2 from by rw [← e2]; exact UrlAt.new ((w.alloc (.cells (cO a0) 30)).alloc (.cells (cU a1 v1) 27)) a2 v2)
  have HM0 := Lib.hid (hm.later HX.out)
  have HS0 := Lib.hid (s1.later HX.out)
  have HT0 := Lib.hid (s2.later HX.out)
  clear hm e1 e2 b1 b2 b3 s1 s2
  go_enter Tryz.func4, Tryz.ntmps4
  go_wp2_with fail
  generalize (((w.alloc (.cells (cO a0) 30)).alloc (.cells (cU a1 v1) 27)).alloc (.cells (cU a2 v2) 27)) = X0 at HX HM0 HO0 HU0 HV0 HS0 HT0  ⊢
  refine (Taint.awake_calls m X0 HM0.out).mono ?_
  rintro e X1 ⟨rfl, hB⟩
  have HB1 := Lib.hid (hB)
  have HO1 := Lib.hid (HO0.out.later hB)
  have HU1 := Lib.hid (HU0.out.later hB)
  have HV1 := Lib.hid (HV0.out.later hB)
  have HM1 := Lib.hid (HM0.out.later hB)
  have HS1 := Lib.hid (HS0.out.later hB)
  have HT1 := Lib.hid (HT0.out.later hB)
  clear HO0 HU0 HV0 HM0 HS0 HT0
  clear hB
  obtain ⟨f1, hf1⟩ : ∃ b, fewU a1 = b := ⟨_, rfl⟩
  have hu := HU1.out
  go_wp2_with ((with_reducible refine wp_load27 (o := ⟨some 13, .load 27 (.tmp 4), _, _, _, _⟩) ?_ (.tmp 4) ?_ (w.heap.size + 1) ?_ a1 v1 l1 hu ?_); (· rfl); (· rfl); (· rfl); simp only [Act.put, List.setIfInBounds_toArray, List.set_cons_zero, List.set_cons_succ])
  refine (few_any a1 v1 l1 f1 hf1 _ HS1.out).mono ?_
  rintro e X2 ⟨rfl, hB⟩
  have HB2 := Lib.hid (below_trans HB1.out hB)
  have HO2 := Lib.hid (HO1.out.later hB)
  have HU2 := Lib.hid (HU1.out.later hB)
  have HV2 := Lib.hid (HV1.out.later hB)
  have HM2 := Lib.hid (HM1.out.later hB)
  have HS2 := Lib.hid (HS1.out.later hB)
  have HT2 := Lib.hid (HT1.out.later hB)
  clear HB1 HO1 HU1 HV1 HM1 HS1 HT1
  clear hB hu
  obtain ⟨f2, hf2⟩ : ∃ b, fewU a2 = b := ⟨_, rfl⟩
  have hu := HV2.out
  go_wp2_with ((with_reducible refine wp_load27 (o := ⟨some 15, .load 27 (.tmp 5), _, _, _, _⟩) ?_ (.tmp 5) ?_ (w.heap.size + 2) ?_ a2 v2 l2 hu ?_); (· rfl); (· rfl); (· rfl); simp only [Act.put, List.setIfInBounds_toArray, List.set_cons_zero, List.set_cons_succ])
  refine (few_any a2 v2 l2 f2 hf2 _ HT2.out).mono ?_
  rintro e X3 ⟨rfl, hB⟩
  have HB3 := Lib.hid (below_trans HB2.out hB)
  have HO3 := Lib.hid (HO2.out.later hB)
  have HU3 := Lib.hid (HU2.out.later hB)
  have HV3 := Lib.hid (HV2.out.later hB)
  have HM3 := Lib.hid (HM2.out.later hB)
  have HS3 := Lib.hid (HS2.out.later hB)
  have HT3 := Lib.hid (HT2.out.later hB)
  clear HB2 HO2 HU2 HV2 HM2 HS2 HT2
  clear hB hu
  cases f1
  · go_wp2
    go_ret
    exact ⟨rfl, HX.out.trans (HB3.out.mono HX.out.size)⟩
  cases f2
  · go_wp2
    go_ret
    exact ⟨rfl, HX.out.trans (HB3.out.mono HX.out.size)⟩
  obtain ⟨A, hA⟩ : ∃ x, tb a0.sch = x := ⟨_, rfl⟩
  obtain ⟨N, hN⟩ : ∃ x, a0.h.s = x := ⟨_, rfl⟩
  have c1 := HO3.out.cell 1
  rw [(cO_at a0 l0).2.1, hA] at c1
  have c3 := HO3.out.cell 3
  rw [show (cO a0)[3]? = a0.h.cells[1]? from cO_host a0 l0 1 (by decide), show a0.h.cells[1]? = some (.string a0.h.s) from rfl, hN] at c3
  rcases Nat.lt_or_ge 300 A.size with q1 | q1
  · have q : decide ((300 : Int) < (A.size : Int)) = true := decide_eq_true (by omega)
    go_wp2
    go_ret
    exact ⟨rfl, HX.out.trans (HB3.out.mono HX.out.size)⟩
  have r1 : decide ((300 : Int) < (A.size : Int)) = false := decide_eq_false (by omega)
  rcases Nat.lt_or_ge 300 N.size with q2 | q2
  · have q : decide ((300 : Int) < (N.size : Int)) = true := decide_eq_true (by omega)
    go_wp2
    go_ret
    exact ⟨rfl, HX.out.trans (HB3.out.mono HX.out.size)⟩
  have r2 : decide ((300 : Int) < (N.size : Int)) = false := decide_eq_false (by omega)
  have hz1 : a0.h.s.size ≤ 1000 := by rw [hN]; omega
  have hl1 : a0.sch.length ≤ 1000000 := by rw [size_tb hA] at q1; omega
  have F1 := few_fit a1 l1 hf1
  have F2 := few_fit a2 l2 hf2
  obtain ⟨o, ho⟩ : ∃ x, ofU a1 = x := ⟨_, rfl⟩
  obtain ⟨o8, oz, oy⟩ := of_size a1 F1
  rw [ho] at o8 oz oy
  obtain ⟨z, hz⟩ : ∃ b, sameO a0 o = b := ⟨_, rfl⟩
  obtain ⟨y, hy⟩ : ∃ b, bothU a1 a2 = b := ⟨_, rfl⟩
  obtain ⟨t, ht⟩ : ∃ b, Taint.taintB false a0 a1 a2 = b := ⟨_, rfl⟩
  obtain ⟨g1, g2, g3⟩ := Taint.stays_law a0 a1 a2
  rw [ht, hy, ho, hz] at g2 g3
  have G2 := Lib.hid g2
  have G3 := Lib.hid g3
  have D1 := Lib.hid (fun x hm hs ht' => Taint.taint_any false a0 a1 a2 v1 v2 l0 hz1 hl1 F1 F2 t ht m x hm hs ht')
  have D2 := Lib.hid (fun x hm hs ht' => Taint.taint_any true a0 a1 a2 v1 v2 l0 hz1 hl1 F1 F2 true g1 m x hm hs ht')
  have CO := Lib.hid (fun x hm hs => of_any a1 v1 F1 o ho m x hm hs)
  have CS := Lib.hid (fun x hm => osame_any a0 o l0 o8 hz1 hl1 z hz m x hm)
  have CB := Lib.hid (fun x hm hs ht' => both_any a1 a2 v1 v2 F1 F2 y hy m x hm hs ht')
  clear hA hN q1 q2 hz1 hl1 F1 F2 ho o8 oz oy hz hy ht g1 g2 g3 hf1 hf2
  have hu := HO3.out
  have hv := HU3.out
  have hw := HV3.out
  go_wp2_with (first | ((with_reducible refine wp_load29 (o := ⟨some 41, .load 30 (.tmp 3), _, _, _, _⟩) ?_ (.tmp 3) ?_ w.heap.size ?_ a0 l0 hu ?_); (· rfl); (· rfl); (· rfl); simp only [Act.put, List.setIfInBounds_toArray, List.set_cons_zero, List.set_cons_succ]) | ((with_reducible refine wp_load27 (o := ⟨some 42, .load 27 (.tmp 4), _, _, _, _⟩) ?_ (.tmp 4) ?_ (w.heap.size + 1) ?_ a1 v1 l1 hv ?_); (· rfl); (· rfl); (· rfl); simp only [Act.put, List.setIfInBounds_toArray, List.set_cons_zero, List.set_cons_succ]) | ((with_reducible refine wp_load27 (o := ⟨some 43, .load 27 (.tmp 5), _, _, _, _⟩) ?_ (.tmp 5) ?_ (w.heap.size + 2) ?_ a2 v2 l2 hw ?_); (· rfl); (· rfl); (· rfl); simp only [Act.put, List.setIfInBounds_toArray, List.set_cons_zero, List.set_cons_succ]))
  refine (D1.out _ HM3.out HS3.out HT3.out).mono ?_
  rintro e X4 ⟨rfl, hB⟩
  have HB4 := Lib.hid (below_trans HB3.out hB)
  have HO4 := Lib.hid (HO3.out.later hB)
  have HU4 := Lib.hid (HU3.out.later hB)
  have HV4 := Lib.hid (HV3.out.later hB)
  have HM4 := Lib.hid (HM3.out.later hB)
  have HS4 := Lib.hid (HS3.out.later hB)
  have HT4 := Lib.hid (HT3.out.later hB)
  clear HB3 HO3 HU3 HV3 HM3 HS3 HT3
  clear hB D1 hu hv hw c1 c3
  go_wp2_with fail
  have QO := Lib.hid (fun u (hu : Below X4.heap.size X4 u) => (HO4.out.later hu).load l0)
  have QU := Lib.hid (Url.q_url HU4.out l1)
  refine Ascii.wp_region_quiet_below (by kernel_rfl) (by kernel_rfl) ?_
  ((go_big_quiet_want; (with_reducible refine Host.quiet_load (o := ⟨some 45, .load 30 (.tmp 3), _, _, _, _⟩) 30 (.tmp 3) ?_ _ ?_ _ QO.out ?_); (· rfl); (· rfl)); go_big_quiet_on; simp only [Act.put, List.setIfInBounds_toArray, List.set_cons_succ, List.set_cons_zero])
  ((go_big_quiet_want; (with_reducible refine Host.quiet_load (o := ⟨some 46, .load 27 (.tmp 4), _, _, _, _⟩) 27 (.tmp 4) ?_ _ ?_ _ QU.out ?_); (· rfl); (· rfl)); go_big_quiet_on; simp only [Act.put, List.setIfInBounds_toArray, List.set_cons_succ, List.set_cons_zero])
  go_big_quiet_step ((intro hu; go_at_call 23; exact (CO.out _ (HM4.out.later hu) (HS4.out.later hu)).mono fun e u' h => ⟨h.1, hu.trans (h.2.mono hu.size)⟩))
  go_big_quiet_step ((intro hu; go_at_call 22; exact (CS.out _ (HM4.out.later hu)).mono fun e u' h => ⟨h.1, hu.trans (h.2.mono hu.size)⟩))
  repeat (go_big_quiet_step ((intro _; rfl)))
  refine wpQuiet_nil ?_
  intro X5 hB
  have HB5 := Lib.hid (below_trans HB4.out hB)
  have HO5 := Lib.hid (HO4.out.later hB)
  have HU5 := Lib.hid (HU4.out.later hB)
  have HV5 := Lib.hid (HV4.out.later hB)
  have HM5 := Lib.hid (HM4.out.later hB)
  have HS5 := Lib.hid (HS4.out.later hB)
  have HT5 := Lib.hid (HT4.out.later hB)
  clear HB4 HO4 HU4 HV4 HM4 HS4 HT4
  clear hB QO QU CO CS
  have hu := HO5.out
  have hv := HU5.out
  have hw := HV5.out
  go_wp2_with (first | ((with_reducible refine wp_load29 (o := ⟨some 49, .load 30 (.tmp 3), _, _, _, _⟩) ?_ (.tmp 3) ?_ w.heap.size ?_ a0 l0 hu ?_); (· rfl); (· rfl); (· rfl); simp only [Act.put, List.setIfInBounds_toArray, List.set_cons_zero, List.set_cons_succ]) | ((with_reducible refine wp_load27 (o := ⟨some 50, .load 27 (.tmp 4), _, _, _, _⟩) ?_ (.tmp 4) ?_ (w.heap.size + 1) ?_ a1 v1 l1 hv ?_); (· rfl); (· rfl); (· rfl); simp only [Act.put, List.setIfInBounds_toArray, List.set_cons_zero, List.set_cons_succ]) | ((with_reducible refine wp_load27 (o := ⟨some 51, .load 27 (.tmp 5), _, _, _, _⟩) ?_ (.tmp 5) ?_ (w.heap.size + 2) ?_ a2 v2 l2 hw ?_); (· rfl); (· rfl); (· rfl); simp only [Act.put, List.setIfInBounds_toArray, List.set_cons_zero, List.set_cons_succ]))
  refine (D2.out _ HM5.out HS5.out HT5.out).mono ?_
  rintro e X6 ⟨rfl, hB⟩
  have HB6 := Lib.hid (below_trans HB5.out hB)
  have HO6 := Lib.hid (HO5.out.later hB)
  have HU6 := Lib.hid (HU5.out.later hB)
  have HV6 := Lib.hid (HV5.out.later hB)
  have HM6 := Lib.hid (HM5.out.later hB)
  have HS6 := Lib.hid (HS5.out.later hB)
  have HT6 := Lib.hid (HT5.out.later hB)
  clear HB5 HO5 HU5 HV5 HM5 HS5 HT5
  clear hB D2 hu hv hw
  cases t
  · have hv := HU6.out
    have hw := HV6.out
    go_wp2_with (first | ((with_reducible refine wp_load27 (o := ⟨some 70, .load 27 (.tmp 4), _, _, _, _⟩) ?_ (.tmp 4) ?_ (w.heap.size + 1) ?_ a1 v1 l1 hv ?_); (· rfl); (· rfl); (· rfl); simp only [Act.put, List.setIfInBounds_toArray, List.set_cons_zero, List.set_cons_succ]) | ((with_reducible refine wp_load27 (o := ⟨some 71, .load 27 (.tmp 5), _, _, _, _⟩) ?_ (.tmp 5) ?_ (w.heap.size + 2) ?_ a2 v2 l2 hw ?_); (· rfl); (· rfl); (· rfl); simp only [Act.put, List.setIfInBounds_toArray, List.set_cons_zero, List.set_cons_succ]))
    refine (CB.out _ HM6.out HS6.out HT6.out).mono ?_
    rintro e X7 ⟨rfl, hB⟩
    have HB7 := Lib.hid (below_trans HB6.out hB)
    have HO7 := Lib.hid (HO6.out.later hB)
    have HU7 := Lib.hid (HU6.out.later hB)
    have HV7 := Lib.hid (HV6.out.later hB)
    have HM7 := Lib.hid (HM6.out.later hB)
    have HS7 := Lib.hid (HS6.out.later hB)
    have HT7 := Lib.hid (HT6.out.later hB)
    clear HB6 HO6 HU6 HV6 HM6 HS6 HT6
    clear hB CB hv hw
    cases y
    · obtain rfl : z = true := by rcases G3.out (by first | rfl | trivial) with h | h <;> first | exact h | cases h
      go_wp2
      go_ret
      exact ⟨rfl, HX.out.trans (HB7.out.mono HX.out.size)⟩
    · go_wp2
      go_ret
      exact ⟨rfl, HX.out.trans (HB7.out.mono HX.out.size)⟩
  · obtain ⟨rfl, rfl⟩ := G2.out (by first | rfl | trivial)
    have hv := HU6.out
    have hw := HV6.out
    go_wp2_with (first | ((with_reducible refine wp_load27 (o := ⟨some 57, .load 27 (.tmp 4), _, _, _, _⟩) ?_ (.tmp 4) ?_ (w.heap.size + 1) ?_ a1 v1 l1 hv ?_); (· rfl); (· rfl); (· rfl); simp only [Act.put, List.setIfInBounds_toArray, List.set_cons_zero, List.set_cons_succ]) | ((with_reducible refine wp_load27 (o := ⟨some 58, .load 27 (.tmp 5), _, _, _, _⟩) ?_ (.tmp 5) ?_ (w.heap.size + 2) ?_ a2 v2 l2 hw ?_); (· rfl); (· rfl); (· rfl); simp only [Act.put, List.setIfInBounds_toArray, List.set_cons_zero, List.set_cons_succ]))
    refine (CB.out _ HM6.out HS6.out HT6.out).mono ?_
    rintro e X7 ⟨rfl, hB⟩
    have HB7 := Lib.hid (below_trans HB6.out hB)
    have HO7 := Lib.hid (HO6.out.later hB)
    have HU7 := Lib.hid (HU6.out.later hB)
    have HV7 := Lib.hid (HV6.out.later hB)
    have HM7 := Lib.hid (HM6.out.later hB)
    have HS7 := Lib.hid (HS6.out.later hB)
    have HT7 := Lib.hid (HT6.out.later hB)
    clear HB6 HO6 HU6 HV6 HM6 HS6 HT6
    clear hB CB hv hw
    go_wp2
    go_ret
    exact ⟨rfl, HX.out.trans (HB7.out.mono HX.out.size)⟩

/-! ### The row's step -/
theorem reads (os : Os) {H : Type} (enc : TypeId × Value → H) : (DataW.whole enc Tryz.prog ((Card.laidWorld os).forCall (fun _ _ => 0) ⟨#[], #[.agg #[.bool false, .string ByteArray.empty, .int .i64 0, .string ByteArray.empty, .int .i64 0, .int .i64 0, .int .i64 0, .int .i64 0, .int .i64 0, .int .i64 0, .int .i64 0, .int .i64 0, .int .i64 0, .int .i64 0], .agg #[.string ByteArray.empty, .string ByteArray.empty, .string ByteArray.empty, .int .i64 0, .string ByteArray.empty, .int .i64 0, .int .i64 0, .int .i64 0, .int .i64 0, .int .i64 0, .int .i64 0, .int .i64 0, .int .i64 0, .int .i64 0, .int .i64 0, .slice none 0 0, .string ByteArray.empty, .string ByteArray.empty, .string ByteArray.empty, .bool false, .bool false], .agg #[.string ByteArray.empty, .string ByteArray.empty, .string ByteArray.empty, .int .i64 0, .string ByteArray.empty, .int .i64 0, .int .i64 0, .int .i64 0, .int .i64 0, .int .i64 0, .int .i64 0, .int .i64 0, .int .i64 0, .int .i64 0, .int .i64 0, .slice none 0 0, .string ByteArray.empty, .string ByteArray.empty, .string ByteArray.empty, .bool false, .bool false]], []⟩).memory Tryz.f4.params.toList Rows.taintStaysSpec.vars false (#[.agg #[.bool false, .string ByteArray.empty, .int .i64 0, .string ByteArray.empty, .int .i64 0, .int .i64 0, .int .i64 0, .int .i64 0, .int .i64 0, .int .i64 0, .int .i64 0, .int .i64 0, .int .i64 0, .int .i64 0], .agg #[.string ByteArray.empty, .string ByteArray.empty, .string ByteArray.empty, .int .i64 0, .string ByteArray.empty, .int .i64 0, .int .i64 0, .int .i64 0, .int .i64 0, .int .i64 0, .int .i64 0, .int .i64 0, .int .i64 0, .int .i64 0, .int .i64 0, .slice none 0 0, .string ByteArray.empty, .string ByteArray.empty, .string ByteArray.empty, .bool false, .bool false], .agg #[.string ByteArray.empty, .string ByteArray.empty, .string ByteArray.empty, .int .i64 0, .string ByteArray.empty, .int .i64 0, .int .i64 0, .int .i64 0, .int .i64 0, .int .i64 0, .int .i64 0, .int .i64 0, .int .i64 0, .int .i64 0, .int .i64 0, .slice none 0 0, .string ByteArray.empty, .string ByteArray.empty, .string ByteArray.empty, .bool false, .bool false]] : Array Value).toList 8).map (fun x => (x.1, x.2.1)) = some ([.agg [.lit (.bool false), .lit (.string []), .agg [.lit (.int .i64 0), .lit (.string []), .lit (.int .i64 0), .agg [.lit (.int .i64 0), .lit (.int .i64 0), .lit (.int .i64 0), .lit (.int .i64 0), .lit (.int .i64 0), .lit (.int .i64 0), .lit (.int .i64 0), .lit (.int .i64 0)]], .lit (.int .i64 0)], .agg [.lit (.string []), .lit (.string []), .lit (.string []), .agg [.lit (.int .i64 0), .lit (.string []), .lit (.int .i64 0), .agg [.lit (.int .i64 0), .lit (.int .i64 0), .lit (.int .i64 0), .lit (.int .i64 0), .lit (.int .i64 0), .lit (.int .i64 0), .lit (.int .i64 0), .lit (.int .i64 0)]], .lit (.int .i64 0), .nil, .lit (.string []), .lit (.string []), .lit (.string []), .lit (.bool false), .lit (.bool false)], .agg [.lit (.string []), .lit (.string []), .lit (.string []), .agg [.lit (.int .i64 0), .lit (.string []), .lit (.int .i64 0), .agg [.lit (.int .i64 0), .lit (.int .i64 0), .lit (.int .i64 0), .lit (.int .i64 0), .lit (.int .i64 0), .lit (.int .i64 0), .lit (.int .i64 0), .lit (.int .i64 0)]], .lit (.int .i64 0), .nil, .lit (.string []), .lit (.string []), .lit (.string []), .lit (.bool false), .lit (.bool false)]], []) := by kernel_rfl
set_option maxRecDepth 100000 in
theorem lifted (os : Os) (started : os.Started) (H : Type) (enc : TypeId × Value → H) (F : Stop.Interp) :
    ReturnsInHanded {} Tryz.checked os 4 .any ((OpenSpec.ofChange Rows.taintStaysSpec).preRow enc Tryz.prog Tryz.f4 Rows.taintStaysRow.domain false Rows.taintStaysRow.laid) (((OpenSpec.ofChange Rows.taintStaysSpec).at F).post enc Tryz.prog Tryz.f4 false true false false) := by
  obtain ⟨⟨x1, x2, x3⟩, hx, hx1⟩ := Option.map_eq_some_iff.1 (reads os enc)
  simp only [Prod.mk.injEq] at hx1
  obtain ⟨rfl, rfl⟩ := hx1
  refine returnsInHanded_of_row (C := Tryz.checked) (s := OpenSpec.ofChange Rows.taintStaysSpec) own started (by kernel_rfl) Tryz.func4
    (witness_row_at (enc := enc) (C := Tryz.checked) false (Card.laidWorld os) #[.agg #[.bool false, .string ByteArray.empty, .int .i64 0, .string ByteArray.empty, .int .i64 0, .int .i64 0, .int .i64 0, .int .i64 0, .int .i64 0, .int .i64 0, .int .i64 0, .int .i64 0, .int .i64 0, .int .i64 0], .agg #[.string ByteArray.empty, .string ByteArray.empty, .string ByteArray.empty, .int .i64 0, .string ByteArray.empty, .int .i64 0, .int .i64 0, .int .i64 0, .int .i64 0, .int .i64 0, .int .i64 0, .int .i64 0, .int .i64 0, .int .i64 0, .int .i64 0, .slice none 0 0, .string ByteArray.empty, .string ByteArray.empty, .string ByteArray.empty, .bool false, .bool false], .agg #[.string ByteArray.empty, .string ByteArray.empty, .string ByteArray.empty, .int .i64 0, .string ByteArray.empty, .int .i64 0, .int .i64 0, .int .i64 0, .int .i64 0, .int .i64 0, .int .i64 0, .int .i64 0, .int .i64 0, .int .i64 0, .int .i64 0, .slice none 0 0, .string ByteArray.empty, .string ByteArray.empty, .string ByteArray.empty, .bool false, .bool false]] rfl (by kernel_rfl) (by kernel_rfl) (by kernel_rfl)
      (OpenSpec.preRow_of_cond 8 hx (by kernel_rfl) (fun k hk => by cases hk) (by kernel_rfl) (Card.laid_met os _))) ?_
  intro W base args ds gs before hval0 hW _ _ _ hL hsh _
  obtain ⟨m, hmax⟩ := Card.maxLen_int hsh
  have hm : Six.At m W := ⟨hmax, fun _ => Six.tab_of hL⟩
  have hval : ∀ (j : Nat) t v, Tryz.f4.params[j]? = some t → args[j]? = some v → Value.okWide Tryz.prog W .any base t v := hval0
  have hW' := hW
  obtain ⟨p, q, hA0, hV, rfl, hfz, hnd⟩ := hW
  have hA : DataW.TrodAll enc Tryz.prog W 0 (fun _ => true) true Tryz.f4.params.toList args.toList ds p := hA0
  rw [Tryz.params4] at hA hval
  obtain ⟨v0, vs0, d0, ds0, p0, q0, hargs0, rfl, rfl, t0, r0⟩ := trodAll_cons hA
  obtain ⟨v1, vs1, d1, ds1, p1, q1, hargs1, rfl, rfl, t1, r1⟩ := trodAll_cons r0
  obtain ⟨v2, vs2, d2, ds2, p2, q2, hargs2, rfl, rfl, t2, r2⟩ := trodAll_cons r1
  obtain ⟨rfl, rfl, rfl⟩ := trodAll_nil r2
  obtain rfl : args = #[v0, v1, v2] := by cases args; simp_all
  obtain ⟨rfl, rfl⟩ := trodVars_none hV
  have k0 := t0
  have lt0 : ∀ x ∈ p0, x.block < W.heap.size := by obtain ⟨m, hm⟩ := k0; exact DataW.trod_lt m _ _ _ hm
  obtain ⟨a0, l0, rfl, w0⟩ := Origin.open_origin (hval 0 30 v0 rfl rfl) t0
  have k1 := t1
  have lt1 : ∀ x ∈ p1, x.block < W.heap.size := by obtain ⟨m, hm⟩ := k1; exact DataW.trod_lt m _ _ _ hm
  obtain ⟨a1, pv1, l1, rfl, z1, w1⟩ := Url.open_url (hval 1 27 v1 rfl rfl) t1
  have k2 := t2
  have lt2 : ∀ x ∈ p2, x.block < W.heap.size := by obtain ⟨m, hm⟩ := k2; exact DataW.trod_lt m _ _ _ hm
  obtain ⟨a2, pv2, l2, rfl, z2, w2⟩ := Url.open_url (hval 2 27 v2 rfl rfl) t2
  clear hA0 hval0
  simp only [List.append_nil] at hW'
  refine (walk a0 l0 a1 pv1 l1 a2 pv2 l2 w0 m W hm z1 w1 z2 w2).mono fun e W' ⟨he, bel⟩ => ?_
  subst he
  exact ⟨_, rfl, _, _, _, [], _, [], hW', trodAll_mk1 (shut_bool Tryz.underlying4 _), (trodAll_cons_mk (Below.trod laidOut (by kernel_rfl) (of_decide_eq_true (by kernel_rfl)) k0 bel lt0) (trodAll_cons_mk (Below.trod laidOut (by kernel_rfl) (of_decide_eq_true (by kernel_rfl)) k1 bel lt1) (trodAll_cons_mk (Below.trod laidOut (by kernel_rfl) (of_decide_eq_true (by kernel_rfl)) k2 bel lt2) trodAll_mk0))), rfl, bel.frame _, fun h => by cases h⟩

theorem said : Rows.taintStaysRow.holds Tryz.pinned (OpenSpec.ofChange Rows.taintStaysSpec) :=
  OpenClaim.holds_of_cond 4 Tryz.f4 rfl rfl rfl rfl rfl rfl rfl ⟨rfl, rfl, rfl, rfl, rfl⟩ rfl rfl rfl rfl rfl (by kernel_rfl) Tryz.func4 (by kernel_rfl)
    (of_decide_eq_true (by kernel_rfl)) (by unfold Func.isWrapper; first | (rw [if_pos (by decide +kernel)]; kernel_rfl) | (rw [if_neg (by decide +kernel)]; exact ⟨rfl, rfl⟩))
    (fun os started H enc _ F => by rw [OpenClaim.pre_eq_preRow]; exact lifted os started H enc F)

/-- No parameter wants a stand-in; the program's own looks are on. -/
theorem plain (f : FuncId) (fn : Func) (hf : Tryz.pinned.checked.prog.funcNamed Rows.taintStaysRow.func = some f) (hfn : Tryz.pinned.checked.prog.funcs[f]? = some fn) :
    true = Tryz.pinned.checked.prog.looks [] ∧ ∀ (j : Nat) t, fn.params[j]? = some t → Tryz.pinned.checked.prog.wantsStandIn t = false := by
  obtain rfl : f = 4 := Option.some.inj ((show Tryz.prog.funcNamed Rows.taintStaysRow.func = some 4 by kernel_rfl).symm.trans hf) |>.symm
  obtain rfl : fn = Tryz.f4 := (Option.some.inj (Tryz.func4.symm.trans hfn)).symm
  refine ⟨by kernel_rfl, fun j t ht => ?_⟩
  rw [Tryz.params4] at ht
  obtain rfl | rfl : t = 30 ∨ t = 27 := by simpa using Array.mem_of_getElem? ht
  · exact (show Tryz.prog.wantsStandIn 30 = false by kernel_rfl)
  · exact (show Tryz.prog.wantsStandIn 27 = false by kernel_rfl)

/-- The statement: the card. -/
theorem proved : Rows.TaintStaysCardSaid :=
  Claim7.holds_tied_plain_at .later [] _ _ _ _ said (fun _ h => by cases h) (by kernel_rfl) (fun _ h => by cases h) taintStays_row_tie rfl ⟨rfl, rfl⟩ (by kernel_rfl) rfl plain (by kernel_rfl)
#print axioms proved
end Go.Proofs.YtlkikfdbjpjpaaaGreatDoor.taintStays
