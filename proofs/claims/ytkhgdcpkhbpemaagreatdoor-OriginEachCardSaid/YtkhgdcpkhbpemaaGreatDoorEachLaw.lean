/-
  WHAT IS PROVED: the card of OriginEach: of any three addresses whose parts are few and short: one of the web that may be has an origin with itself; one has it with another just if that has it with it; what has it with one of two that have one has it with the other.
  CONDITIONS: none but the card's own: the listed tables read as their texts lay them; the addresses are any.
-/
import Derived.Test.YtkhgdcpkhbpemaaGreatDoorCards
import Derived.Test.YtkhgdcpkhbpemaaGreatDoorTie
import Derived.WalkKit
import Derived.ProofKit
import Derived.OpenShut
import Derived.ShutString
import Derived.ChangeOld
import Derived.Below
import Derived.Deep.RegionHeld
import Derived.Laws.AppendOwnNone
import Derived.Test.YtkhgdcpkhbpemaaGreatDoorOAwake
import Derived.Test.YtkhgdcpkhbpemaaGreatDoorLaid
import Derived.Test.YtkhgdcpkhbpemaaGreatDoorHOpen
namespace Go.Proofs.YtkhgdcpkhbpemaaGreatDoor.originEach
open Go.ChangeShapes Go.WideShapes Go.ChangeAt Go.RowKit
open Go.ChangeMaps (open_string shut_string)
open Go.Shelf
open Go.Proofs.YtkhgdcpkhbpemaaGreatDoor.Url
open Go.Proofs.YtkhgdcpkhbpemaaGreatDoor.Host (H)
open Go.Proofs.YtkhgdcpkhbpemaaGreatDoor.Path (Strs)
set_option linter.unusedSimpArgs false
set_option linter.unusedVariables false

theorem own : ownKnob Tryz.prog.godebug = none := by kernel_rfl
theorem laidOut : laidOutB Tryz.prog = true := by kernel_rfl

open Go.Proofs.YtkhgdcpkhbpemaaGreatDoor.Show
open Go.Proofs.YtkhgdcpkhbpemaaGreatDoor.Origin
set_option maxRecDepth 100000
set_option maxHeartbeats 16000000 in
theorem walk (a0 : U) (v0 : Value) (l0 : a0.h.p.length = 8) (a1 : U) (v1 : Value) (l1 : a1.h.p.length = 8) (a2 : U) (v2 : Value) (l2 : a2.h.p.length = 8) (m : Int) (w : World) (hm : Six.At m w) (s0 : Path.Strs w v0 a0.path) (w0 : (Lit.int .i64 a0.port).wf = true) (s1 : Path.Strs w v1 a1.path) (w1 : (Lit.int .i64 a1.port).wf = true) (s2 : Path.Strs w v2 a2.path) (w2 : (Lit.int .i64 a2.port).wf = true) :
    Calls Tryz.prog 4 #[.agg (cU a0 v0), .agg (cU a1 v1), .agg (cU a2 v2)] w fun e w' => e = .returned (.bool true) ∧ Below w.heap.size w w' := by
  have e1 : (w.alloc (.cells (cU a0 v0) 27)).heap.size = w.heap.size + 1 := Array.size_push _
  have e2 : ((w.alloc (.cells (cU a0 v0) 27)).alloc (.cells (cU a1 v1) 27)).heap.size = w.heap.size + 2 := by rw [show ((w.alloc (.cells (cU a0 v0) 27)).alloc (.cells (cU a1 v1) 27)).heap.size = (w.alloc (.cells (cU a0 v0) 27)).heap.size + 1 from Array.size_push _, e1]
  have b1 : Below w.heap.size w (w.alloc (.cells (cU a0 v0) 27)) := (Below.refl w.heap.size w).alloc (Nat.le_refl _) _
  have b2 : Below w.heap.size w ((w.alloc (.cells (cU a0 v0) 27)).alloc (.cells (cU a1 v1) 27)) := b1.alloc (by omega) _
  have b3 : Below w.heap.size w (((w.alloc (.cells (cU a0 v0) 27)).alloc (.cells (cU a1 v1) 27)).alloc (.cells (cU a2 v2) 27)) := b2.alloc (by omega) _
  have HX := Lib.hid b3
  have HU0 := Lib.hid (((UrlAt.new w a0 v0).past (.cells (cU a1 v1) 27)).past (.cells (cU a2 v2) 27))
  have HV0 := Lib.hid ((show UrlAt ((w.alloc (.cells (cU a0 v0) 27)).alloc (.cells (cU a1 v1) 27)) (w.heap.size + 1) a1 v1 from by rw [← e1]; exact UrlAt.new (w.alloc (.cells (cU a0 v0) 27)) a1 v1).past (.cells (cU a2 v2) 27))
  have HW0 := Lib.hid (show UrlAt (((w.alloc (.cells (cU a0 v0) 27)).alloc (.cells (cU a1 v1) 27)).alloc (.cells (cU a2 v2) 27)) (w.heap.size + 2) a2 v2 from by rw [← e2]; exact UrlAt.new ((w.alloc (.cells (cU a0 v0) 27)).alloc (.cells (cU a1 v1) 27)) a2 v2)
  have HM0 := Lib.hid (hm.later HX.out)
  have HS0 := Lib.hid (s0.later HX.out)
  have HT0 := Lib.hid (s1.later HX.out)
  have HR0 := Lib.hid (s2.later HX.out)
  clear hm e1 e2 b1 b2 b3 s0 s1 s2
  go_enter Tryz.func4, Tryz.ntmps4
  go_wp2_with fail
  generalize (((w.alloc (.cells (cU a0 v0) 27)).alloc (.cells (cU a1 v1) 27)).alloc (.cells (cU a2 v2) 27)) = X0 at HX HM0 HU0 HS0 HV0 HT0 HW0 HR0 ⊢
  have HMX := HM0
  refine (Origin.awake_calls m X0 HM0.out).mono ?_
  rintro e X1 ⟨rfl, hB⟩
  have HB1 := Lib.hid (hB)
  have HU1 := Lib.hid (HU0.out.later hB)
  have HV1 := Lib.hid (HV0.out.later hB)
  have HW1 := Lib.hid (HW0.out.later hB)
  have HM1 := Lib.hid (HM0.out.later hB)
  have HS1 := Lib.hid (HS0.out.later hB)
  have HT1 := Lib.hid (HT0.out.later hB)
  have HR1 := Lib.hid (HR0.out.later hB)
  clear HU0 HV0 HW0 HM0 HS0 HT0 HR0
  clear hB
  obtain ⟨f0, hf0⟩ : ∃ b, fewU a0 = b := ⟨_, rfl⟩
  have hu := HU1.out
  go_wp2_with ((with_reducible refine wp_load27 (o := ⟨some 14, .load 27 (.tmp 3), _, _, _, _⟩) ?_ (.tmp 3) ?_ w.heap.size ?_ a0 v0 l0 hu ?_); (· rfl); (· rfl); (· rfl); simp only [Act.put, List.setIfInBounds_toArray, List.set_cons_zero, List.set_cons_succ])
  refine (few_any a0 v0 l0 f0 hf0 _ HS1.out).mono ?_
  rintro e X2 ⟨rfl, hB⟩
  have HB2 := Lib.hid (below_trans HB1.out hB)
  have HU2 := Lib.hid (HU1.out.later hB)
  have HV2 := Lib.hid (HV1.out.later hB)
  have HW2 := Lib.hid (HW1.out.later hB)
  have HM2 := Lib.hid (HM1.out.later hB)
  have HS2 := Lib.hid (HS1.out.later hB)
  have HT2 := Lib.hid (HT1.out.later hB)
  have HR2 := Lib.hid (HR1.out.later hB)
  clear HB1 HU1 HV1 HW1 HM1 HS1 HT1 HR1
  clear hB hu
  obtain ⟨f1, hf1⟩ : ∃ b, fewU a1 = b := ⟨_, rfl⟩
  have hu := HV2.out
  go_wp2_with ((with_reducible refine wp_load27 (o := ⟨some 16, .load 27 (.tmp 4), _, _, _, _⟩) ?_ (.tmp 4) ?_ (w.heap.size + 1) ?_ a1 v1 l1 hu ?_); (· rfl); (· rfl); (· rfl); simp only [Act.put, List.setIfInBounds_toArray, List.set_cons_zero, List.set_cons_succ])
  refine (few_any a1 v1 l1 f1 hf1 _ HT2.out).mono ?_
  rintro e X3 ⟨rfl, hB⟩
  have HB3 := Lib.hid (below_trans HB2.out hB)
  have HU3 := Lib.hid (HU2.out.later hB)
  have HV3 := Lib.hid (HV2.out.later hB)
  have HW3 := Lib.hid (HW2.out.later hB)
  have HM3 := Lib.hid (HM2.out.later hB)
  have HS3 := Lib.hid (HS2.out.later hB)
  have HT3 := Lib.hid (HT2.out.later hB)
  have HR3 := Lib.hid (HR2.out.later hB)
  clear HB2 HU2 HV2 HW2 HM2 HS2 HT2 HR2
  clear hB hu
  obtain ⟨f2, hf2⟩ : ∃ b, fewU a2 = b := ⟨_, rfl⟩
  have hu := HW3.out
  go_wp2_with ((with_reducible refine wp_load27 (o := ⟨some 18, .load 27 (.tmp 5), _, _, _, _⟩) ?_ (.tmp 5) ?_ (w.heap.size + 2) ?_ a2 v2 l2 hu ?_); (· rfl); (· rfl); (· rfl); simp only [Act.put, List.setIfInBounds_toArray, List.set_cons_zero, List.set_cons_succ])
  refine (few_any a2 v2 l2 f2 hf2 _ HR3.out).mono ?_
  rintro e X4 ⟨rfl, hB⟩
  have HB4 := Lib.hid (below_trans HB3.out hB)
  have HU4 := Lib.hid (HU3.out.later hB)
  have HV4 := Lib.hid (HV3.out.later hB)
  have HW4 := Lib.hid (HW3.out.later hB)
  have HM4 := Lib.hid (HM3.out.later hB)
  have HS4 := Lib.hid (HS3.out.later hB)
  have HT4 := Lib.hid (HT3.out.later hB)
  have HR4 := Lib.hid (HR3.out.later hB)
  clear HB3 HU3 HV3 HW3 HM3 HS3 HT3 HR3
  clear hB hu
  cases f0
  · go_wp2
    go_ret
    exact ⟨rfl, HX.out.trans (HB4.out.mono HX.out.size)⟩
  cases f1
  · go_wp2
    go_ret
    exact ⟨rfl, HX.out.trans (HB4.out.mono HX.out.size)⟩
  cases f2
  · go_wp2
    go_ret
    exact ⟨rfl, HX.out.trans (HB4.out.mono HX.out.size)⟩
  have F0 := few_fit a0 l0 hf0
  have F1 := few_fit a1 l1 hf1
  have F2 := few_fit a2 l2 hf2
  obtain ⟨mu, hmu⟩ : ∃ b, mayU a0 = b := ⟨_, rfl⟩
  obtain ⟨z, hz⟩ : ∃ z, webI a0.sch = z := ⟨_, rfl⟩
  obtain ⟨Z, hZ⟩ : ∃ b, decide (0 < z) = b := ⟨_, rfl⟩
  obtain ⟨b, hb⟩ : ∃ b, bothU a0 a1 = b := ⟨_, rfl⟩
  obtain ⟨c, hc⟩ : ∃ b, bothU a1 a2 = b := ⟨_, rfl⟩
  obtain ⟨d, hd⟩ : ∃ b, bothU a0 a2 = b := ⟨_, rfl⟩
  obtain ⟨o, ho⟩ : ∃ b, ofU a0 = b := ⟨_, rfl⟩
  obtain ⟨N, hN⟩ : ∃ n, tb a0.sch = n := ⟨_, rfl⟩
  obtain ⟨q8, qs, ql⟩ := of_size a0 F0
  rw [ho] at q8 qs ql
  have hweb : (!decide (webI a0.sch = 0)) = Z := by
    rw [← hZ, ← hz]
    rcases web_cases a0.sch with ⟨_, e⟩ | ⟨_, e⟩ | e <;> rw [e] <;> rfl
  have hself : bothU a0 a0 = (mu && Z) := by rw [both_self, hmu, hweb]
  have hsymm : bothU a1 a0 = b := by rw [both_symm]; exact hb
  have CM := Lib.hid (fun y hm hs => Url.may_any a0 v0 F0 mu hmu m y hm hs)
  have CZ := Lib.hid (fun y => web_any N z (by rw [list_tb hN]; exact hz) y)
  have CB := Lib.hid (fun y hm hs hs' => both_any a0 a1 v0 v1 F0 F1 b hb m y hm hs hs')
  have CS := Lib.hid (fun y hm hs hs' => both_any a0 a0 v0 v0 F0 F0 (mu && Z) hself m y hm hs hs')
  have CY := Lib.hid (fun y hm hs hs' => both_any a1 a0 v1 v0 F1 F0 b hsymm m y hm hs hs')
  have CC := Lib.hid (fun y hm hs hs' => both_any a1 a2 v1 v2 F1 F2 c hc m y hm hs hs')
  have CD := Lib.hid (fun y hm hs hs' => both_any a0 a2 v0 v2 F0 F2 d hd m y hm hs hs')
  have CO := Lib.hid (fun y hm hs => of_any a0 v0 F0 o ho m y hm hs)
  have CN := Lib.hid (fun y hm => omay_any o q8 qs ql true (by rw [← ho]; exact of_may a0) m y hm)
  have K1 := Lib.hid (show b = true → c = d from fun h => by rw [← hc, ← hd]; exact both_trans (hb.trans h) a2)
  have K2 := Lib.hid (show b = true → mu = true ∧ Z = true from fun h => by
    obtain ⟨h1, -, -⟩ := (both_iff a0 a1).1 (hb.trans h)
    rw [← hmu, ← hweb]
    exact ⟨h1.1, by rw [decide_eq_false h1.2]; rfl⟩)
  have HN := Lib.hid hN
  have HZ := Lib.hid hZ
  clear hf0 hf1 hf2 F0 F1 F2 hmu hz hZ hb hc hd ho hN q8 qs ql hweb hself hsymm
  have h0 := HU4.out
  go_wp2_with ((with_reducible refine wp_load27 (o := ⟨some 35, .load 27 (.tmp 3), _, _, _, _⟩) ?_ (.tmp 3) ?_ w.heap.size ?_ a0 v0 l0 h0 ?_); (· rfl); (· rfl); (· rfl); simp only [Act.put, List.setIfInBounds_toArray, List.set_cons_zero, List.set_cons_succ])
  refine (CM.out _ HM4.out HS4.out).mono ?_
  rintro e X5 ⟨rfl, hB⟩
  have HB5 := Lib.hid (below_trans HB4.out hB)
  have HU5 := Lib.hid (HU4.out.later hB)
  have HV5 := Lib.hid (HV4.out.later hB)
  have HW5 := Lib.hid (HW4.out.later hB)
  have HM5 := Lib.hid (HM4.out.later hB)
  have HS5 := Lib.hid (HS4.out.later hB)
  have HT5 := Lib.hid (HT4.out.later hB)
  have HR5 := Lib.hid (HR4.out.later hB)
  clear HB4 HU4 HV4 HW4 HM4 HS4 HT4 HR4
  clear hB h0
  cases mu
  · have hzz := HZ.out
    have h0 := HU5.out
    have h1 := HV5.out
    go_wp2_with (first | ((with_reducible refine wp_load27 (o := ⟨some 43, .load 27 (.tmp 3), _, _, _, _⟩) ?_ (.tmp 3) ?_ w.heap.size ?_ a0 v0 l0 h0 ?_); (· rfl); (· rfl); (· rfl); simp only [Act.put, List.setIfInBounds_toArray, List.set_cons_zero, List.set_cons_succ]) | ((with_reducible refine wp_load27 (o := ⟨some 44, .load 27 (.tmp 4), _, _, _, _⟩) ?_ (.tmp 4) ?_ (w.heap.size + 1) ?_ a1 v1 l1 h1 ?_); (· rfl); (· rfl); (· rfl); simp only [Act.put, List.setIfInBounds_toArray, List.set_cons_zero, List.set_cons_succ]))
    refine (CB.out _ HM5.out HS5.out HT5.out).mono ?_
    rintro e X7 ⟨rfl, hB⟩
    have HB6 := Lib.hid (below_trans HB5.out hB)
    have HU6 := Lib.hid (HU5.out.later hB)
    have HV6 := Lib.hid (HV5.out.later hB)
    have HW6 := Lib.hid (HW5.out.later hB)
    have HM6 := Lib.hid (HM5.out.later hB)
    have HS6 := Lib.hid (HS5.out.later hB)
    have HT6 := Lib.hid (HT5.out.later hB)
    have HR6 := Lib.hid (HR5.out.later hB)
    clear HB5 HU5 HV5 HW5 HM5 HS5 HT5 HR5
    clear hB h0 h1
    have QU := Lib.hid (Url.q_url HU6.out l0)
    have QV := Lib.hid (Url.q_url HV6.out l1)
    have QW := Lib.hid (Url.q_url HW6.out l2)
    cases b
    · go_wp2_with fail
      refine Ascii.wp_region_quiet_below (by kernel_rfl) (by kernel_rfl) ?_
      ((go_big_quiet_want; (with_reducible refine Host.quiet_load (o := ⟨some 46, .load 27 (.tmp 3), _, _, _, _⟩) 27 (.tmp 3) ?_ _ ?_ _ QU.out ?_); (· rfl); (· rfl)); go_big_quiet_on; simp only [Act.put, List.setIfInBounds_toArray, List.set_cons_succ, List.set_cons_zero])
      ((go_big_quiet_want; (with_reducible refine Host.quiet_load (o := ⟨some 47, .load 27 (.tmp 3), _, _, _, _⟩) 27 (.tmp 3) ?_ _ ?_ _ QU.out ?_); (· rfl); (· rfl)); go_big_quiet_on; simp only [Act.put, List.setIfInBounds_toArray, List.set_cons_succ, List.set_cons_zero])
      go_big_quiet_step ((intro hu; go_at_call 22; exact (CS.out _ (HM6.out.later hu) (HS6.out.later hu) (HS6.out.later hu)).mono fun e u' h => ⟨h.1, hu.trans (h.2.mono hu.size)⟩))
      iterate 4 (go_big_quiet_step ((intro _; rfl)))
      (first | go_big_quiet_skip | ((go_big_quiet_want; (with_reducible refine Host.quiet_load (o := ⟨some 53, .load 27 (.tmp 4), _, _, _, _⟩) 27 (.tmp 4) ?_ _ ?_ _ QV.out ?_); (· rfl); (· rfl)); go_big_quiet_on; simp only [Act.put, List.setIfInBounds_toArray, List.set_cons_succ, List.set_cons_zero]))
      (first | go_big_quiet_skip | ((go_big_quiet_want; (with_reducible refine Host.quiet_load (o := ⟨some 54, .load 27 (.tmp 3), _, _, _, _⟩) 27 (.tmp 3) ?_ _ ?_ _ QU.out ?_); (· rfl); (· rfl)); go_big_quiet_on; simp only [Act.put, List.setIfInBounds_toArray, List.set_cons_succ, List.set_cons_zero]))
      go_big_quiet_step ((intro hu; go_at_call 22; exact (CY.out _ (HM6.out.later hu) (HT6.out.later hu) (HS6.out.later hu)).mono fun e u' h => ⟨h.1, hu.trans (h.2.mono hu.size)⟩))
      iterate 8 (go_big_quiet_step ((intro _; rfl)))
      (first | go_big_quiet_skip | ((go_big_quiet_want; (with_reducible refine Host.quiet_load (o := ⟨some 64, .load 27 (.tmp 4), _, _, _, _⟩) 27 (.tmp 4) ?_ _ ?_ _ QV.out ?_); (· rfl); (· rfl)); go_big_quiet_on; simp only [Act.put, List.setIfInBounds_toArray, List.set_cons_succ, List.set_cons_zero]))
      (first | go_big_quiet_skip | ((go_big_quiet_want; (with_reducible refine Host.quiet_load (o := ⟨some 65, .load 27 (.tmp 5), _, _, _, _⟩) 27 (.tmp 5) ?_ _ ?_ _ QW.out ?_); (· rfl); (· rfl)); go_big_quiet_on; simp only [Act.put, List.setIfInBounds_toArray, List.set_cons_succ, List.set_cons_zero]))
      go_big_quiet_step ((intro hu; go_at_call 22; exact (CC.out _ (HM6.out.later hu) (HT6.out.later hu) (HR6.out.later hu)).mono fun e u' h => ⟨h.1, hu.trans (h.2.mono hu.size)⟩))
      (first | go_big_quiet_skip | ((go_big_quiet_want; (with_reducible refine Host.quiet_load (o := ⟨some 67, .load 27 (.tmp 3), _, _, _, _⟩) 27 (.tmp 3) ?_ _ ?_ _ QU.out ?_); (· rfl); (· rfl)); go_big_quiet_on; simp only [Act.put, List.setIfInBounds_toArray, List.set_cons_succ, List.set_cons_zero]))
      (first | go_big_quiet_skip | ((go_big_quiet_want; (with_reducible refine Host.quiet_load (o := ⟨some 68, .load 27 (.tmp 5), _, _, _, _⟩) 27 (.tmp 5) ?_ _ ?_ _ QW.out ?_); (· rfl); (· rfl)); go_big_quiet_on; simp only [Act.put, List.setIfInBounds_toArray, List.set_cons_succ, List.set_cons_zero]))
      go_big_quiet_step ((intro hu; go_at_call 22; exact (CD.out _ (HM6.out.later hu) (HS6.out.later hu) (HR6.out.later hu)).mono fun e u' h => ⟨h.1, hu.trans (h.2.mono hu.size)⟩))
      iterate 5 (go_big_quiet_step ((intro _; rfl)))
      (first | go_big_quiet_skip | ((go_big_quiet_want; (with_reducible refine Host.quiet_load (o := ⟨some 75, .load 27 (.tmp 3), _, _, _, _⟩) 27 (.tmp 3) ?_ _ ?_ _ QU.out ?_); (· rfl); (· rfl)); go_big_quiet_on; simp only [Act.put, List.setIfInBounds_toArray, List.set_cons_succ, List.set_cons_zero]))
      go_big_quiet_step ((intro hu; go_at_call 15; exact (CO.out _ (HM6.out.later hu) (HS6.out.later hu)).mono fun e u' h => ⟨h.1, hu.trans (h.2.mono hu.size)⟩))
      go_big_quiet_step ((intro hu; go_at_call 17; exact (CN.out _ (HM6.out.later hu)).mono fun e u' h => ⟨h.1, hu.trans (h.2.mono hu.size)⟩))
      iterate 2 (go_big_quiet_step ((intro _; rfl)))
      repeat (go_big_quiet_step ((intro _; rfl)))
      refine wpQuiet_nil ?_
      intro y hy
      go_wp2
      go_ret
      exact ⟨rfl, HX.out.trans ((below_trans HB6.out hy).mono HX.out.size)⟩
    · exact absurd (K2.out (by first | rfl | trivial)).1 (by decide)
  · have c0 := HU5.out.cell 0
    rw [(cU_at a0 v0 l0).1, HN.out] at c0
    go_wp2_with fail
    refine (CZ.out _).mono ?_
    rintro e X ⟨rfl, rfl⟩
    clear CZ c0
    have hzz := HZ.out
    cases Z
    · have h0 := HU5.out
      have h1 := HV5.out
      go_wp2_with (first | ((with_reducible refine wp_load27 (o := ⟨some 43, .load 27 (.tmp 3), _, _, _, _⟩) ?_ (.tmp 3) ?_ w.heap.size ?_ a0 v0 l0 h0 ?_); (· rfl); (· rfl); (· rfl); simp only [Act.put, List.setIfInBounds_toArray, List.set_cons_zero, List.set_cons_succ]) | ((with_reducible refine wp_load27 (o := ⟨some 44, .load 27 (.tmp 4), _, _, _, _⟩) ?_ (.tmp 4) ?_ (w.heap.size + 1) ?_ a1 v1 l1 h1 ?_); (· rfl); (· rfl); (· rfl); simp only [Act.put, List.setIfInBounds_toArray, List.set_cons_zero, List.set_cons_succ]))
      refine (CB.out _ HM5.out HS5.out HT5.out).mono ?_
      rintro e X7 ⟨rfl, hB⟩
      have HB6 := Lib.hid (below_trans HB5.out hB)
      have HU6 := Lib.hid (HU5.out.later hB)
      have HV6 := Lib.hid (HV5.out.later hB)
      have HW6 := Lib.hid (HW5.out.later hB)
      have HM6 := Lib.hid (HM5.out.later hB)
      have HS6 := Lib.hid (HS5.out.later hB)
      have HT6 := Lib.hid (HT5.out.later hB)
      have HR6 := Lib.hid (HR5.out.later hB)
      clear HB5 HU5 HV5 HW5 HM5 HS5 HT5 HR5
      clear hB h0 h1
      have QU := Lib.hid (Url.q_url HU6.out l0)
      have QV := Lib.hid (Url.q_url HV6.out l1)
      have QW := Lib.hid (Url.q_url HW6.out l2)
      cases b
      · go_wp2_with fail
        refine Ascii.wp_region_quiet_below (by kernel_rfl) (by kernel_rfl) ?_
        ((go_big_quiet_want; (with_reducible refine Host.quiet_load (o := ⟨some 46, .load 27 (.tmp 3), _, _, _, _⟩) 27 (.tmp 3) ?_ _ ?_ _ QU.out ?_); (· rfl); (· rfl)); go_big_quiet_on; simp only [Act.put, List.setIfInBounds_toArray, List.set_cons_succ, List.set_cons_zero])
        ((go_big_quiet_want; (with_reducible refine Host.quiet_load (o := ⟨some 47, .load 27 (.tmp 3), _, _, _, _⟩) 27 (.tmp 3) ?_ _ ?_ _ QU.out ?_); (· rfl); (· rfl)); go_big_quiet_on; simp only [Act.put, List.setIfInBounds_toArray, List.set_cons_succ, List.set_cons_zero])
        go_big_quiet_step ((intro hu; go_at_call 22; exact (CS.out _ (HM6.out.later hu) (HS6.out.later hu) (HS6.out.later hu)).mono fun e u' h => ⟨h.1, hu.trans (h.2.mono hu.size)⟩))
        iterate 4 (go_big_quiet_step ((intro _; rfl)))
        (first | go_big_quiet_skip | ((go_big_quiet_want; (with_reducible refine Host.quiet_load (o := ⟨some 53, .load 27 (.tmp 4), _, _, _, _⟩) 27 (.tmp 4) ?_ _ ?_ _ QV.out ?_); (· rfl); (· rfl)); go_big_quiet_on; simp only [Act.put, List.setIfInBounds_toArray, List.set_cons_succ, List.set_cons_zero]))
        (first | go_big_quiet_skip | ((go_big_quiet_want; (with_reducible refine Host.quiet_load (o := ⟨some 54, .load 27 (.tmp 3), _, _, _, _⟩) 27 (.tmp 3) ?_ _ ?_ _ QU.out ?_); (· rfl); (· rfl)); go_big_quiet_on; simp only [Act.put, List.setIfInBounds_toArray, List.set_cons_succ, List.set_cons_zero]))
        go_big_quiet_step ((intro hu; go_at_call 22; exact (CY.out _ (HM6.out.later hu) (HT6.out.later hu) (HS6.out.later hu)).mono fun e u' h => ⟨h.1, hu.trans (h.2.mono hu.size)⟩))
        iterate 8 (go_big_quiet_step ((intro _; rfl)))
        (first | go_big_quiet_skip | ((go_big_quiet_want; (with_reducible refine Host.quiet_load (o := ⟨some 64, .load 27 (.tmp 4), _, _, _, _⟩) 27 (.tmp 4) ?_ _ ?_ _ QV.out ?_); (· rfl); (· rfl)); go_big_quiet_on; simp only [Act.put, List.setIfInBounds_toArray, List.set_cons_succ, List.set_cons_zero]))
        (first | go_big_quiet_skip | ((go_big_quiet_want; (with_reducible refine Host.quiet_load (o := ⟨some 65, .load 27 (.tmp 5), _, _, _, _⟩) 27 (.tmp 5) ?_ _ ?_ _ QW.out ?_); (· rfl); (· rfl)); go_big_quiet_on; simp only [Act.put, List.setIfInBounds_toArray, List.set_cons_succ, List.set_cons_zero]))
        go_big_quiet_step ((intro hu; go_at_call 22; exact (CC.out _ (HM6.out.later hu) (HT6.out.later hu) (HR6.out.later hu)).mono fun e u' h => ⟨h.1, hu.trans (h.2.mono hu.size)⟩))
        (first | go_big_quiet_skip | ((go_big_quiet_want; (with_reducible refine Host.quiet_load (o := ⟨some 67, .load 27 (.tmp 3), _, _, _, _⟩) 27 (.tmp 3) ?_ _ ?_ _ QU.out ?_); (· rfl); (· rfl)); go_big_quiet_on; simp only [Act.put, List.setIfInBounds_toArray, List.set_cons_succ, List.set_cons_zero]))
        (first | go_big_quiet_skip | ((go_big_quiet_want; (with_reducible refine Host.quiet_load (o := ⟨some 68, .load 27 (.tmp 5), _, _, _, _⟩) 27 (.tmp 5) ?_ _ ?_ _ QW.out ?_); (· rfl); (· rfl)); go_big_quiet_on; simp only [Act.put, List.setIfInBounds_toArray, List.set_cons_succ, List.set_cons_zero]))
        go_big_quiet_step ((intro hu; go_at_call 22; exact (CD.out _ (HM6.out.later hu) (HS6.out.later hu) (HR6.out.later hu)).mono fun e u' h => ⟨h.1, hu.trans (h.2.mono hu.size)⟩))
        iterate 5 (go_big_quiet_step ((intro _; rfl)))
        (first | go_big_quiet_skip | ((go_big_quiet_want; (with_reducible refine Host.quiet_load (o := ⟨some 75, .load 27 (.tmp 3), _, _, _, _⟩) 27 (.tmp 3) ?_ _ ?_ _ QU.out ?_); (· rfl); (· rfl)); go_big_quiet_on; simp only [Act.put, List.setIfInBounds_toArray, List.set_cons_succ, List.set_cons_zero]))
        go_big_quiet_step ((intro hu; go_at_call 15; exact (CO.out _ (HM6.out.later hu) (HS6.out.later hu)).mono fun e u' h => ⟨h.1, hu.trans (h.2.mono hu.size)⟩))
        go_big_quiet_step ((intro hu; go_at_call 17; exact (CN.out _ (HM6.out.later hu)).mono fun e u' h => ⟨h.1, hu.trans (h.2.mono hu.size)⟩))
        iterate 2 (go_big_quiet_step ((intro _; rfl)))
        repeat (go_big_quiet_step ((intro _; rfl)))
        refine wpQuiet_nil ?_
        intro y hy
        go_wp2
        go_ret
        exact ⟨rfl, HX.out.trans ((below_trans HB6.out hy).mono HX.out.size)⟩
      · exact absurd (K2.out (by first | rfl | trivial)).2 (by decide)
    · have h0 := HU5.out
      have h1 := HV5.out
      go_wp2_with (first | ((with_reducible refine wp_load27 (o := ⟨some 43, .load 27 (.tmp 3), _, _, _, _⟩) ?_ (.tmp 3) ?_ w.heap.size ?_ a0 v0 l0 h0 ?_); (· rfl); (· rfl); (· rfl); simp only [Act.put, List.setIfInBounds_toArray, List.set_cons_zero, List.set_cons_succ]) | ((with_reducible refine wp_load27 (o := ⟨some 44, .load 27 (.tmp 4), _, _, _, _⟩) ?_ (.tmp 4) ?_ (w.heap.size + 1) ?_ a1 v1 l1 h1 ?_); (· rfl); (· rfl); (· rfl); simp only [Act.put, List.setIfInBounds_toArray, List.set_cons_zero, List.set_cons_succ]))
      refine (CB.out _ HM5.out HS5.out HT5.out).mono ?_
      rintro e X7 ⟨rfl, hB⟩
      have HB6 := Lib.hid (below_trans HB5.out hB)
      have HU6 := Lib.hid (HU5.out.later hB)
      have HV6 := Lib.hid (HV5.out.later hB)
      have HW6 := Lib.hid (HW5.out.later hB)
      have HM6 := Lib.hid (HM5.out.later hB)
      have HS6 := Lib.hid (HS5.out.later hB)
      have HT6 := Lib.hid (HT5.out.later hB)
      have HR6 := Lib.hid (HR5.out.later hB)
      clear HB5 HU5 HV5 HW5 HM5 HS5 HT5 HR5
      clear hB h0 h1
      have QU := Lib.hid (Url.q_url HU6.out l0)
      have QV := Lib.hid (Url.q_url HV6.out l1)
      have QW := Lib.hid (Url.q_url HW6.out l2)
      cases b
      · go_wp2_with fail
        refine Ascii.wp_region_quiet_below (by kernel_rfl) (by kernel_rfl) ?_
        ((go_big_quiet_want; (with_reducible refine Host.quiet_load (o := ⟨some 46, .load 27 (.tmp 3), _, _, _, _⟩) 27 (.tmp 3) ?_ _ ?_ _ QU.out ?_); (· rfl); (· rfl)); go_big_quiet_on; simp only [Act.put, List.setIfInBounds_toArray, List.set_cons_succ, List.set_cons_zero])
        ((go_big_quiet_want; (with_reducible refine Host.quiet_load (o := ⟨some 47, .load 27 (.tmp 3), _, _, _, _⟩) 27 (.tmp 3) ?_ _ ?_ _ QU.out ?_); (· rfl); (· rfl)); go_big_quiet_on; simp only [Act.put, List.setIfInBounds_toArray, List.set_cons_succ, List.set_cons_zero])
        go_big_quiet_step ((intro hu; go_at_call 22; exact (CS.out _ (HM6.out.later hu) (HS6.out.later hu) (HS6.out.later hu)).mono fun e u' h => ⟨h.1, hu.trans (h.2.mono hu.size)⟩))
        iterate 4 (go_big_quiet_step ((intro _; rfl)))
        (first | go_big_quiet_skip | ((go_big_quiet_want; (with_reducible refine Host.quiet_load (o := ⟨some 53, .load 27 (.tmp 4), _, _, _, _⟩) 27 (.tmp 4) ?_ _ ?_ _ QV.out ?_); (· rfl); (· rfl)); go_big_quiet_on; simp only [Act.put, List.setIfInBounds_toArray, List.set_cons_succ, List.set_cons_zero]))
        (first | go_big_quiet_skip | ((go_big_quiet_want; (with_reducible refine Host.quiet_load (o := ⟨some 54, .load 27 (.tmp 3), _, _, _, _⟩) 27 (.tmp 3) ?_ _ ?_ _ QU.out ?_); (· rfl); (· rfl)); go_big_quiet_on; simp only [Act.put, List.setIfInBounds_toArray, List.set_cons_succ, List.set_cons_zero]))
        go_big_quiet_step ((intro hu; go_at_call 22; exact (CY.out _ (HM6.out.later hu) (HT6.out.later hu) (HS6.out.later hu)).mono fun e u' h => ⟨h.1, hu.trans (h.2.mono hu.size)⟩))
        iterate 8 (go_big_quiet_step ((intro _; rfl)))
        (first | go_big_quiet_skip | ((go_big_quiet_want; (with_reducible refine Host.quiet_load (o := ⟨some 64, .load 27 (.tmp 4), _, _, _, _⟩) 27 (.tmp 4) ?_ _ ?_ _ QV.out ?_); (· rfl); (· rfl)); go_big_quiet_on; simp only [Act.put, List.setIfInBounds_toArray, List.set_cons_succ, List.set_cons_zero]))
        (first | go_big_quiet_skip | ((go_big_quiet_want; (with_reducible refine Host.quiet_load (o := ⟨some 65, .load 27 (.tmp 5), _, _, _, _⟩) 27 (.tmp 5) ?_ _ ?_ _ QW.out ?_); (· rfl); (· rfl)); go_big_quiet_on; simp only [Act.put, List.setIfInBounds_toArray, List.set_cons_succ, List.set_cons_zero]))
        go_big_quiet_step ((intro hu; go_at_call 22; exact (CC.out _ (HM6.out.later hu) (HT6.out.later hu) (HR6.out.later hu)).mono fun e u' h => ⟨h.1, hu.trans (h.2.mono hu.size)⟩))
        (first | go_big_quiet_skip | ((go_big_quiet_want; (with_reducible refine Host.quiet_load (o := ⟨some 67, .load 27 (.tmp 3), _, _, _, _⟩) 27 (.tmp 3) ?_ _ ?_ _ QU.out ?_); (· rfl); (· rfl)); go_big_quiet_on; simp only [Act.put, List.setIfInBounds_toArray, List.set_cons_succ, List.set_cons_zero]))
        (first | go_big_quiet_skip | ((go_big_quiet_want; (with_reducible refine Host.quiet_load (o := ⟨some 68, .load 27 (.tmp 5), _, _, _, _⟩) 27 (.tmp 5) ?_ _ ?_ _ QW.out ?_); (· rfl); (· rfl)); go_big_quiet_on; simp only [Act.put, List.setIfInBounds_toArray, List.set_cons_succ, List.set_cons_zero]))
        go_big_quiet_step ((intro hu; go_at_call 22; exact (CD.out _ (HM6.out.later hu) (HS6.out.later hu) (HR6.out.later hu)).mono fun e u' h => ⟨h.1, hu.trans (h.2.mono hu.size)⟩))
        iterate 5 (go_big_quiet_step ((intro _; rfl)))
        (first | go_big_quiet_skip | ((go_big_quiet_want; (with_reducible refine Host.quiet_load (o := ⟨some 75, .load 27 (.tmp 3), _, _, _, _⟩) 27 (.tmp 3) ?_ _ ?_ _ QU.out ?_); (· rfl); (· rfl)); go_big_quiet_on; simp only [Act.put, List.setIfInBounds_toArray, List.set_cons_succ, List.set_cons_zero]))
        go_big_quiet_step ((intro hu; go_at_call 15; exact (CO.out _ (HM6.out.later hu) (HS6.out.later hu)).mono fun e u' h => ⟨h.1, hu.trans (h.2.mono hu.size)⟩))
        go_big_quiet_step ((intro hu; go_at_call 17; exact (CN.out _ (HM6.out.later hu)).mono fun e u' h => ⟨h.1, hu.trans (h.2.mono hu.size)⟩))
        iterate 2 (go_big_quiet_step ((intro _; rfl)))
        repeat (go_big_quiet_step ((intro _; rfl)))
        refine wpQuiet_nil ?_
        intro y hy
        go_wp2
        go_ret
        exact ⟨rfl, HX.out.trans ((below_trans HB6.out hy).mono HX.out.size)⟩
      · obtain rfl := K1.out (by first | rfl | trivial)
        cases c
        · go_wp2_with fail
          refine Ascii.wp_region_quiet_below (by kernel_rfl) (by kernel_rfl) ?_
          ((go_big_quiet_want; (with_reducible refine Host.quiet_load (o := ⟨some 46, .load 27 (.tmp 3), _, _, _, _⟩) 27 (.tmp 3) ?_ _ ?_ _ QU.out ?_); (· rfl); (· rfl)); go_big_quiet_on; simp only [Act.put, List.setIfInBounds_toArray, List.set_cons_succ, List.set_cons_zero])
          ((go_big_quiet_want; (with_reducible refine Host.quiet_load (o := ⟨some 47, .load 27 (.tmp 3), _, _, _, _⟩) 27 (.tmp 3) ?_ _ ?_ _ QU.out ?_); (· rfl); (· rfl)); go_big_quiet_on; simp only [Act.put, List.setIfInBounds_toArray, List.set_cons_succ, List.set_cons_zero])
          go_big_quiet_step ((intro hu; go_at_call 22; exact (CS.out _ (HM6.out.later hu) (HS6.out.later hu) (HS6.out.later hu)).mono fun e u' h => ⟨h.1, hu.trans (h.2.mono hu.size)⟩))
          iterate 4 (go_big_quiet_step ((intro _; rfl)))
          (first | go_big_quiet_skip | ((go_big_quiet_want; (with_reducible refine Host.quiet_load (o := ⟨some 53, .load 27 (.tmp 4), _, _, _, _⟩) 27 (.tmp 4) ?_ _ ?_ _ QV.out ?_); (· rfl); (· rfl)); go_big_quiet_on; simp only [Act.put, List.setIfInBounds_toArray, List.set_cons_succ, List.set_cons_zero]))
          (first | go_big_quiet_skip | ((go_big_quiet_want; (with_reducible refine Host.quiet_load (o := ⟨some 54, .load 27 (.tmp 3), _, _, _, _⟩) 27 (.tmp 3) ?_ _ ?_ _ QU.out ?_); (· rfl); (· rfl)); go_big_quiet_on; simp only [Act.put, List.setIfInBounds_toArray, List.set_cons_succ, List.set_cons_zero]))
          go_big_quiet_step ((intro hu; go_at_call 22; exact (CY.out _ (HM6.out.later hu) (HT6.out.later hu) (HS6.out.later hu)).mono fun e u' h => ⟨h.1, hu.trans (h.2.mono hu.size)⟩))
          iterate 8 (go_big_quiet_step ((intro _; rfl)))
          (first | go_big_quiet_skip | ((go_big_quiet_want; (with_reducible refine Host.quiet_load (o := ⟨some 64, .load 27 (.tmp 4), _, _, _, _⟩) 27 (.tmp 4) ?_ _ ?_ _ QV.out ?_); (· rfl); (· rfl)); go_big_quiet_on; simp only [Act.put, List.setIfInBounds_toArray, List.set_cons_succ, List.set_cons_zero]))
          (first | go_big_quiet_skip | ((go_big_quiet_want; (with_reducible refine Host.quiet_load (o := ⟨some 65, .load 27 (.tmp 5), _, _, _, _⟩) 27 (.tmp 5) ?_ _ ?_ _ QW.out ?_); (· rfl); (· rfl)); go_big_quiet_on; simp only [Act.put, List.setIfInBounds_toArray, List.set_cons_succ, List.set_cons_zero]))
          go_big_quiet_step ((intro hu; go_at_call 22; exact (CC.out _ (HM6.out.later hu) (HT6.out.later hu) (HR6.out.later hu)).mono fun e u' h => ⟨h.1, hu.trans (h.2.mono hu.size)⟩))
          (first | go_big_quiet_skip | ((go_big_quiet_want; (with_reducible refine Host.quiet_load (o := ⟨some 67, .load 27 (.tmp 3), _, _, _, _⟩) 27 (.tmp 3) ?_ _ ?_ _ QU.out ?_); (· rfl); (· rfl)); go_big_quiet_on; simp only [Act.put, List.setIfInBounds_toArray, List.set_cons_succ, List.set_cons_zero]))
          (first | go_big_quiet_skip | ((go_big_quiet_want; (with_reducible refine Host.quiet_load (o := ⟨some 68, .load 27 (.tmp 5), _, _, _, _⟩) 27 (.tmp 5) ?_ _ ?_ _ QW.out ?_); (· rfl); (· rfl)); go_big_quiet_on; simp only [Act.put, List.setIfInBounds_toArray, List.set_cons_succ, List.set_cons_zero]))
          go_big_quiet_step ((intro hu; go_at_call 22; exact (CD.out _ (HM6.out.later hu) (HS6.out.later hu) (HR6.out.later hu)).mono fun e u' h => ⟨h.1, hu.trans (h.2.mono hu.size)⟩))
          iterate 5 (go_big_quiet_step ((intro _; rfl)))
          (first | go_big_quiet_skip | ((go_big_quiet_want; (with_reducible refine Host.quiet_load (o := ⟨some 75, .load 27 (.tmp 3), _, _, _, _⟩) 27 (.tmp 3) ?_ _ ?_ _ QU.out ?_); (· rfl); (· rfl)); go_big_quiet_on; simp only [Act.put, List.setIfInBounds_toArray, List.set_cons_succ, List.set_cons_zero]))
          go_big_quiet_step ((intro hu; go_at_call 15; exact (CO.out _ (HM6.out.later hu) (HS6.out.later hu)).mono fun e u' h => ⟨h.1, hu.trans (h.2.mono hu.size)⟩))
          go_big_quiet_step ((intro hu; go_at_call 17; exact (CN.out _ (HM6.out.later hu)).mono fun e u' h => ⟨h.1, hu.trans (h.2.mono hu.size)⟩))
          iterate 2 (go_big_quiet_step ((intro _; rfl)))
          repeat (go_big_quiet_step ((intro _; rfl)))
          refine wpQuiet_nil ?_
          intro y hy
          go_wp2
          go_ret
          exact ⟨rfl, HX.out.trans ((below_trans HB6.out hy).mono HX.out.size)⟩
        · go_wp2_with fail
          refine Ascii.wp_region_quiet_below (by kernel_rfl) (by kernel_rfl) ?_
          ((go_big_quiet_want; (with_reducible refine Host.quiet_load (o := ⟨some 46, .load 27 (.tmp 3), _, _, _, _⟩) 27 (.tmp 3) ?_ _ ?_ _ QU.out ?_); (· rfl); (· rfl)); go_big_quiet_on; simp only [Act.put, List.setIfInBounds_toArray, List.set_cons_succ, List.set_cons_zero])
          ((go_big_quiet_want; (with_reducible refine Host.quiet_load (o := ⟨some 47, .load 27 (.tmp 3), _, _, _, _⟩) 27 (.tmp 3) ?_ _ ?_ _ QU.out ?_); (· rfl); (· rfl)); go_big_quiet_on; simp only [Act.put, List.setIfInBounds_toArray, List.set_cons_succ, List.set_cons_zero])
          go_big_quiet_step ((intro hu; go_at_call 22; exact (CS.out _ (HM6.out.later hu) (HS6.out.later hu) (HS6.out.later hu)).mono fun e u' h => ⟨h.1, hu.trans (h.2.mono hu.size)⟩))
          iterate 4 (go_big_quiet_step ((intro _; rfl)))
          (first | go_big_quiet_skip | ((go_big_quiet_want; (with_reducible refine Host.quiet_load (o := ⟨some 53, .load 27 (.tmp 4), _, _, _, _⟩) 27 (.tmp 4) ?_ _ ?_ _ QV.out ?_); (· rfl); (· rfl)); go_big_quiet_on; simp only [Act.put, List.setIfInBounds_toArray, List.set_cons_succ, List.set_cons_zero]))
          (first | go_big_quiet_skip | ((go_big_quiet_want; (with_reducible refine Host.quiet_load (o := ⟨some 54, .load 27 (.tmp 3), _, _, _, _⟩) 27 (.tmp 3) ?_ _ ?_ _ QU.out ?_); (· rfl); (· rfl)); go_big_quiet_on; simp only [Act.put, List.setIfInBounds_toArray, List.set_cons_succ, List.set_cons_zero]))
          go_big_quiet_step ((intro hu; go_at_call 22; exact (CY.out _ (HM6.out.later hu) (HT6.out.later hu) (HS6.out.later hu)).mono fun e u' h => ⟨h.1, hu.trans (h.2.mono hu.size)⟩))
          iterate 8 (go_big_quiet_step ((intro _; rfl)))
          (first | go_big_quiet_skip | ((go_big_quiet_want; (with_reducible refine Host.quiet_load (o := ⟨some 64, .load 27 (.tmp 4), _, _, _, _⟩) 27 (.tmp 4) ?_ _ ?_ _ QV.out ?_); (· rfl); (· rfl)); go_big_quiet_on; simp only [Act.put, List.setIfInBounds_toArray, List.set_cons_succ, List.set_cons_zero]))
          (first | go_big_quiet_skip | ((go_big_quiet_want; (with_reducible refine Host.quiet_load (o := ⟨some 65, .load 27 (.tmp 5), _, _, _, _⟩) 27 (.tmp 5) ?_ _ ?_ _ QW.out ?_); (· rfl); (· rfl)); go_big_quiet_on; simp only [Act.put, List.setIfInBounds_toArray, List.set_cons_succ, List.set_cons_zero]))
          go_big_quiet_step ((intro hu; go_at_call 22; exact (CC.out _ (HM6.out.later hu) (HT6.out.later hu) (HR6.out.later hu)).mono fun e u' h => ⟨h.1, hu.trans (h.2.mono hu.size)⟩))
          (first | go_big_quiet_skip | ((go_big_quiet_want; (with_reducible refine Host.quiet_load (o := ⟨some 67, .load 27 (.tmp 3), _, _, _, _⟩) 27 (.tmp 3) ?_ _ ?_ _ QU.out ?_); (· rfl); (· rfl)); go_big_quiet_on; simp only [Act.put, List.setIfInBounds_toArray, List.set_cons_succ, List.set_cons_zero]))
          (first | go_big_quiet_skip | ((go_big_quiet_want; (with_reducible refine Host.quiet_load (o := ⟨some 68, .load 27 (.tmp 5), _, _, _, _⟩) 27 (.tmp 5) ?_ _ ?_ _ QW.out ?_); (· rfl); (· rfl)); go_big_quiet_on; simp only [Act.put, List.setIfInBounds_toArray, List.set_cons_succ, List.set_cons_zero]))
          go_big_quiet_step ((intro hu; go_at_call 22; exact (CD.out _ (HM6.out.later hu) (HS6.out.later hu) (HR6.out.later hu)).mono fun e u' h => ⟨h.1, hu.trans (h.2.mono hu.size)⟩))
          iterate 5 (go_big_quiet_step ((intro _; rfl)))
          (first | go_big_quiet_skip | ((go_big_quiet_want; (with_reducible refine Host.quiet_load (o := ⟨some 75, .load 27 (.tmp 3), _, _, _, _⟩) 27 (.tmp 3) ?_ _ ?_ _ QU.out ?_); (· rfl); (· rfl)); go_big_quiet_on; simp only [Act.put, List.setIfInBounds_toArray, List.set_cons_succ, List.set_cons_zero]))
          go_big_quiet_step ((intro hu; go_at_call 15; exact (CO.out _ (HM6.out.later hu) (HS6.out.later hu)).mono fun e u' h => ⟨h.1, hu.trans (h.2.mono hu.size)⟩))
          go_big_quiet_step ((intro hu; go_at_call 17; exact (CN.out _ (HM6.out.later hu)).mono fun e u' h => ⟨h.1, hu.trans (h.2.mono hu.size)⟩))
          iterate 2 (go_big_quiet_step ((intro _; rfl)))
          repeat (go_big_quiet_step ((intro _; rfl)))
          refine wpQuiet_nil ?_
          intro y hy
          go_wp2
          go_ret
          exact ⟨rfl, HX.out.trans ((below_trans HB6.out hy).mono HX.out.size)⟩

/-! ### The row's step -/
theorem reads (os : Os) {H : Type} (enc : TypeId × Value → H) : (DataW.whole enc Tryz.prog ((Card.laidWorld os).forCall (fun _ _ => 0) ⟨#[], #[.agg #[.string ByteArray.empty, .string ByteArray.empty, .string ByteArray.empty, .int .i64 0, .string ByteArray.empty, .int .i64 0, .int .i64 0, .int .i64 0, .int .i64 0, .int .i64 0, .int .i64 0, .int .i64 0, .int .i64 0, .int .i64 0, .int .i64 0, .slice none 0 0, .string ByteArray.empty, .string ByteArray.empty, .string ByteArray.empty, .bool false, .bool false], .agg #[.string ByteArray.empty, .string ByteArray.empty, .string ByteArray.empty, .int .i64 0, .string ByteArray.empty, .int .i64 0, .int .i64 0, .int .i64 0, .int .i64 0, .int .i64 0, .int .i64 0, .int .i64 0, .int .i64 0, .int .i64 0, .int .i64 0, .slice none 0 0, .string ByteArray.empty, .string ByteArray.empty, .string ByteArray.empty, .bool false, .bool false], .agg #[.string ByteArray.empty, .string ByteArray.empty, .string ByteArray.empty, .int .i64 0, .string ByteArray.empty, .int .i64 0, .int .i64 0, .int .i64 0, .int .i64 0, .int .i64 0, .int .i64 0, .int .i64 0, .int .i64 0, .int .i64 0, .int .i64 0, .slice none 0 0, .string ByteArray.empty, .string ByteArray.empty, .string ByteArray.empty, .bool false, .bool false]], []⟩).memory Tryz.f4.params.toList Rows.originEachSpec.vars false (#[.agg #[.string ByteArray.empty, .string ByteArray.empty, .string ByteArray.empty, .int .i64 0, .string ByteArray.empty, .int .i64 0, .int .i64 0, .int .i64 0, .int .i64 0, .int .i64 0, .int .i64 0, .int .i64 0, .int .i64 0, .int .i64 0, .int .i64 0, .slice none 0 0, .string ByteArray.empty, .string ByteArray.empty, .string ByteArray.empty, .bool false, .bool false], .agg #[.string ByteArray.empty, .string ByteArray.empty, .string ByteArray.empty, .int .i64 0, .string ByteArray.empty, .int .i64 0, .int .i64 0, .int .i64 0, .int .i64 0, .int .i64 0, .int .i64 0, .int .i64 0, .int .i64 0, .int .i64 0, .int .i64 0, .slice none 0 0, .string ByteArray.empty, .string ByteArray.empty, .string ByteArray.empty, .bool false, .bool false], .agg #[.string ByteArray.empty, .string ByteArray.empty, .string ByteArray.empty, .int .i64 0, .string ByteArray.empty, .int .i64 0, .int .i64 0, .int .i64 0, .int .i64 0, .int .i64 0, .int .i64 0, .int .i64 0, .int .i64 0, .int .i64 0, .int .i64 0, .slice none 0 0, .string ByteArray.empty, .string ByteArray.empty, .string ByteArray.empty, .bool false, .bool false]] : Array Value).toList 8).map (fun x => (x.1, x.2.1)) = some ([.agg [.lit (.string []), .lit (.string []), .lit (.string []), .agg [.lit (.int .i64 0), .lit (.string []), .lit (.int .i64 0), .agg [.lit (.int .i64 0), .lit (.int .i64 0), .lit (.int .i64 0), .lit (.int .i64 0), .lit (.int .i64 0), .lit (.int .i64 0), .lit (.int .i64 0), .lit (.int .i64 0)]], .lit (.int .i64 0), .nil, .lit (.string []), .lit (.string []), .lit (.string []), .lit (.bool false), .lit (.bool false)], .agg [.lit (.string []), .lit (.string []), .lit (.string []), .agg [.lit (.int .i64 0), .lit (.string []), .lit (.int .i64 0), .agg [.lit (.int .i64 0), .lit (.int .i64 0), .lit (.int .i64 0), .lit (.int .i64 0), .lit (.int .i64 0), .lit (.int .i64 0), .lit (.int .i64 0), .lit (.int .i64 0)]], .lit (.int .i64 0), .nil, .lit (.string []), .lit (.string []), .lit (.string []), .lit (.bool false), .lit (.bool false)], .agg [.lit (.string []), .lit (.string []), .lit (.string []), .agg [.lit (.int .i64 0), .lit (.string []), .lit (.int .i64 0), .agg [.lit (.int .i64 0), .lit (.int .i64 0), .lit (.int .i64 0), .lit (.int .i64 0), .lit (.int .i64 0), .lit (.int .i64 0), .lit (.int .i64 0), .lit (.int .i64 0)]], .lit (.int .i64 0), .nil, .lit (.string []), .lit (.string []), .lit (.string []), .lit (.bool false), .lit (.bool false)]], []) := by kernel_rfl
set_option maxRecDepth 100000 in
theorem lifted (os : Os) (started : os.Started) (H : Type) (enc : TypeId × Value → H) (F : Stop.Interp) :
    ReturnsInHanded {} Tryz.checked os 4 .any ((OpenSpec.ofChange Rows.originEachSpec).preRow enc Tryz.prog Tryz.f4 Rows.originEachRow.domain false Rows.originEachRow.laid) (((OpenSpec.ofChange Rows.originEachSpec).at F).post enc Tryz.prog Tryz.f4 false true false false) := by
  obtain ⟨⟨x1, x2, x3⟩, hx, hx1⟩ := Option.map_eq_some_iff.1 (reads os enc)
  simp only [Prod.mk.injEq] at hx1
  obtain ⟨rfl, rfl⟩ := hx1
  refine returnsInHanded_of_row (C := Tryz.checked) (s := OpenSpec.ofChange Rows.originEachSpec) own started (by kernel_rfl) Tryz.func4
    (witness_row_at (enc := enc) (C := Tryz.checked) false (Card.laidWorld os) #[.agg #[.string ByteArray.empty, .string ByteArray.empty, .string ByteArray.empty, .int .i64 0, .string ByteArray.empty, .int .i64 0, .int .i64 0, .int .i64 0, .int .i64 0, .int .i64 0, .int .i64 0, .int .i64 0, .int .i64 0, .int .i64 0, .int .i64 0, .slice none 0 0, .string ByteArray.empty, .string ByteArray.empty, .string ByteArray.empty, .bool false, .bool false], .agg #[.string ByteArray.empty, .string ByteArray.empty, .string ByteArray.empty, .int .i64 0, .string ByteArray.empty, .int .i64 0, .int .i64 0, .int .i64 0, .int .i64 0, .int .i64 0, .int .i64 0, .int .i64 0, .int .i64 0, .int .i64 0, .int .i64 0, .slice none 0 0, .string ByteArray.empty, .string ByteArray.empty, .string ByteArray.empty, .bool false, .bool false], .agg #[.string ByteArray.empty, .string ByteArray.empty, .string ByteArray.empty, .int .i64 0, .string ByteArray.empty, .int .i64 0, .int .i64 0, .int .i64 0, .int .i64 0, .int .i64 0, .int .i64 0, .int .i64 0, .int .i64 0, .int .i64 0, .int .i64 0, .slice none 0 0, .string ByteArray.empty, .string ByteArray.empty, .string ByteArray.empty, .bool false, .bool false]] rfl (by kernel_rfl) (by kernel_rfl) (by kernel_rfl)
      (OpenSpec.preRow_of_cond 8 hx (by kernel_rfl) (fun k hk => by cases hk) (by kernel_rfl) (Card.laid_met os _))) ?_
  intro W base args ds gs before hval0 hW _ _ _ hL hsh _
  obtain ⟨m, hmax⟩ := Card.maxLen_int hsh
  have hm : Six.At m W := ⟨hmax, Six.tab_of hL⟩
  have hval : ∀ (j : Nat) t v, Tryz.f4.params[j]? = some t → args[j]? = some v → Value.okWide Tryz.prog W .any base t v := hval0
  have hW' := hW
  obtain ⟨p, q, hA0, hV, rfl, hfz, hnd⟩ := hW
  have hA : DataW.TrodAll enc Tryz.prog W 0 (fun _ => true) true Tryz.f4.params.toList args.toList ds p := hA0
  rw [Tryz.params4] at hA hval
  obtain ⟨v0, vs0, d0, ds0, p0, q0, hargs0, rfl, rfl, t0, r0⟩ := trodAll_cons hA
  obtain ⟨v1, vs1, d1, ds1, p1, q1, hargs1, rfl, rfl, t1, r1⟩ := trodAll_cons r0
  obtain ⟨v2, vs2, d2, ds2, p2, q2, hargs2, rfl, rfl, t2, r2⟩ := trodAll_cons r1
  obtain ⟨rfl, rfl, rfl⟩ := trodAll_nil r2
  obtain rfl : args = #[v0, v1, v2] := by cases args; simp_all
  obtain ⟨rfl, rfl⟩ := trodVars_none hV
  have k0 := t0
  have lt0 : ∀ x ∈ p0, x.block < W.heap.size := by obtain ⟨m, hm⟩ := k0; exact DataW.trod_lt m _ _ _ hm
  obtain ⟨a0, pv0, l0, rfl, z0, w0⟩ := Url.open_url (hval 0 27 v0 rfl rfl) t0
  have k1 := t1
  have lt1 : ∀ x ∈ p1, x.block < W.heap.size := by obtain ⟨m, hm⟩ := k1; exact DataW.trod_lt m _ _ _ hm
  obtain ⟨a1, pv1, l1, rfl, z1, w1⟩ := Url.open_url (hval 1 27 v1 rfl rfl) t1
  have k2 := t2
  have lt2 : ∀ x ∈ p2, x.block < W.heap.size := by obtain ⟨m, hm⟩ := k2; exact DataW.trod_lt m _ _ _ hm
  obtain ⟨a2, pv2, l2, rfl, z2, w2⟩ := Url.open_url (hval 2 27 v2 rfl rfl) t2
  clear hA0 hval0
  simp only [List.append_nil] at hW'
  refine (walk a0 pv0 l0 a1 pv1 l1 a2 pv2 l2  m W hm z0 w0 z1 w1 z2 w2).mono fun e W' ⟨he, bel⟩ => ?_
  subst he
  exact ⟨_, rfl, _, _, _, [], _, [], hW', trodAll_mk1 (shut_bool Tryz.underlying4 _), (trodAll_cons_mk (Below.trod laidOut (by kernel_rfl) (of_decide_eq_true (by kernel_rfl)) k0 bel lt0) (trodAll_cons_mk (Below.trod laidOut (by kernel_rfl) (of_decide_eq_true (by kernel_rfl)) k1 bel lt1) (trodAll_cons_mk (Below.trod laidOut (by kernel_rfl) (of_decide_eq_true (by kernel_rfl)) k2 bel lt2) trodAll_mk0))), rfl, bel.frame _, fun h => by cases h⟩

theorem said : Rows.originEachRow.holds Tryz.pinned (OpenSpec.ofChange Rows.originEachSpec) :=
  OpenClaim.holds_of_cond 4 Tryz.f4 rfl rfl rfl rfl rfl rfl rfl ⟨rfl, rfl, rfl, rfl, rfl⟩ rfl rfl rfl rfl rfl (by kernel_rfl) Tryz.func4 (by kernel_rfl)
    (of_decide_eq_true (by kernel_rfl)) (by unfold Func.isWrapper; first | (rw [if_pos (by decide +kernel)]; kernel_rfl) | (rw [if_neg (by decide +kernel)]; exact ⟨rfl, rfl⟩))
    (fun os started H enc _ F => by rw [OpenClaim.pre_eq_preRow]; exact lifted os started H enc F)

/-- No parameter wants a stand-in; the program's own looks are on. -/
theorem plain (f : FuncId) (fn : Func) (hf : Tryz.pinned.checked.prog.funcNamed Rows.originEachRow.func = some f) (hfn : Tryz.pinned.checked.prog.funcs[f]? = some fn) :
    true = Tryz.pinned.checked.prog.looks [] ∧ ∀ (j : Nat) t, fn.params[j]? = some t → Tryz.pinned.checked.prog.wantsStandIn t = false := by
  obtain rfl : f = 4 := Option.some.inj ((show Tryz.prog.funcNamed Rows.originEachRow.func = some 4 by kernel_rfl).symm.trans hf) |>.symm
  obtain rfl : fn = Tryz.f4 := (Option.some.inj (Tryz.func4.symm.trans hfn)).symm
  refine ⟨by kernel_rfl, fun j t ht => ?_⟩
  rw [Tryz.params4] at ht
  obtain rfl : t = 27 := by simpa using Array.mem_of_getElem? ht
  · exact (show Tryz.prog.wantsStandIn 27 = false by kernel_rfl)

/-- The statement: the card. -/
theorem proved : Rows.OriginEachCardSaid :=
  Claim7.holds_tied_plain_at .later [] _ _ _ _ said (fun _ h => by cases h) (by kernel_rfl) (fun _ h => by cases h) originEach_row_tie rfl ⟨rfl, rfl⟩ (by kernel_rfl) rfl plain (by kernel_rfl)
#print axioms proved
end Go.Proofs.YtkhgdcpkhbpemaaGreatDoor.originEach
