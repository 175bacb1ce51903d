/-
  WHAT IS PROVED: the card of ReferSelf: of any policy, and any two addresses of one origin whose parts are few and short: a page that asks of its own origin tells its address, without its user and its fragment, by each policy but three: by the first one nothing, by two others, or where that is longer than 4096 bytes, no more than that, and an address of that origin.
  CONDITIONS: none but the card's own: the listed tables read as their texts lay them; the policy and the addresses are any.
-/
import Derived.Test.YtbehcipclnmiiaaGreatDoorCards
import Derived.Test.YtbehcipclnmiiaaGreatDoorTie
import Derived.WalkKit
import Derived.ProofKit
import Derived.OpenShut
import Derived.ShutString
import Derived.ChangeOld
import Derived.Below
import Derived.Deep.RegionHeld
import Derived.Laws.AppendOwnNone
import Derived.Test.YtbehcipclnmiiaaGreatDoorRfAwake
import Derived.Test.YtbehcipclnmiiaaGreatDoorLaid
import Derived.Test.YtbehcipclnmiiaaGreatDoorHOpen
namespace Go.Proofs.YtbehcipclnmiiaaGreatDoor.referSelf
open Go.ChangeShapes Go.WideShapes Go.ChangeAt Go.RowKit
open Go.ChangeMaps (open_string shut_string)
open Go.Shelf
open Go.Proofs.YtbehcipclnmiiaaGreatDoor.Url
open Go.Proofs.YtbehcipclnmiiaaGreatDoor.Host (H)
open Go.Proofs.YtbehcipclnmiiaaGreatDoor.Path (Strs)
set_option linter.unusedSimpArgs false
set_option linter.unusedVariables false

theorem own : ownKnob Tryz.prog.godebug = none := by kernel_rfl
theorem laidOut : laidOutB Tryz.prog = true := by kernel_rfl

open Go.Proofs.YtbehcipclnmiiaaGreatDoor.Show
open Go.Proofs.YtbehcipclnmiiaaGreatDoor.Origin
set_option maxRecDepth 100000
set_option maxHeartbeats 16000000 in
theorem walk (a0 : Int) (a1 : U) (v1 : Value) (l1 : a1.h.p.length = 8) (a2 : U) (v2 : Value) (l2 : a2.h.p.length = 8) (w0 : (Lit.int .i64 a0).wf = true) (m : Int) (w : World) (hm : Six.At m w) (hT : Policy.TabAt w) (s1 : Path.Strs w v1 a1.path) (p1 : (Lit.int .i64 a1.port).wf = true) (s2 : Path.Strs w v2 a2.path) (p2 : (Lit.int .i64 a2.port).wf = true) :
    Calls Tryz.prog 3 #[.int .i64 a0, .agg (cU a1 v1), .agg (cU a2 v2)] w fun e w' => e = .returned (.bool true) ∧ Below w.heap.size w w' := by
  have e1 : (w.alloc (.cells (cU a1 v1) 27)).heap.size = w.heap.size + 1 := Array.size_push _
  have b1 : Below w.heap.size w (w.alloc (.cells (cU a1 v1) 27)) := (Below.refl w.heap.size w).alloc (Nat.le_refl _) _
  have b2 : Below w.heap.size w ((w.alloc (.cells (cU a1 v1) 27)).alloc (.cells (cU a2 v2) 27)) := b1.alloc (by omega) _
  have HX := Lib.hid b2
  have HU0 := Lib.hid ((UrlAt.new w a1 v1).past (.cells (cU a2 v2) 27))
  have HV0 := Lib.hid (show UrlAt ((w.alloc (.cells (cU a1 v1) 27)).alloc (.cells (cU a2 v2) 27)) (w.heap.size + 1) a2 v2 from by rw [← e1]; exact UrlAt.new (w.alloc (.cells (cU a1 v1) 27)) a2 v2)
  have HM0 := Lib.hid (hm.later HX.out)
  have HS0 := Lib.hid (s1.later HX.out)
  have HT0 := Lib.hid (s2.later HX.out)
  have HP0 := Lib.hid (hT.later HX.out)
  clear hm hT e1 b1 b2 s1 s2
  go_enter Tryz.func3, Tryz.ntmps3
  go_wp2_with fail
  generalize ((w.alloc (.cells (cU a1 v1) 27)).alloc (.cells (cU a2 v2) 27)) = X0 at HX HM0 HP0 HU0 HV0 HS0 HT0 ⊢
  refine (Refer.awake_calls m X0 HM0.out HP0.out).mono ?_
  rintro e X1 ⟨rfl, hB⟩
  have HB1 := Lib.hid (hB)
  have HU1 := Lib.hid (HU0.out.later hB)
  have HV1 := Lib.hid (HV0.out.later hB)
  have HM1 := Lib.hid (HM0.out.later hB)
  have HP1 := Lib.hid (HP0.out.later hB)
  have HS1 := Lib.hid (HS0.out.later hB)
  have HT1 := Lib.hid (HT0.out.later hB)
  clear HU0 HV0 HM0 HP0 HS0 HT0
  clear hB
  obtain ⟨f1, hf1⟩ : ∃ b, fewU a1 = b := ⟨_, rfl⟩
  have hu := HU1.out
  go_wp2_with ((with_reducible refine wp_load27 (o := ⟨some 16, .load 27 (.tmp 4), _, _, _, _⟩) ?_ (.tmp 4) ?_ w.heap.size ?_ a1 v1 l1 hu ?_); (· rfl); (· rfl); (· rfl); simp only [Act.put, List.setIfInBounds_toArray, List.set_cons_zero, List.set_cons_succ])
  refine (few_any a1 v1 l1 f1 hf1 _ HS1.out).mono ?_
  rintro e X2 ⟨rfl, hB⟩
  have HB2 := Lib.hid (below_trans HB1.out hB)
  have HU2 := Lib.hid (HU1.out.later hB)
  have HV2 := Lib.hid (HV1.out.later hB)
  have HM2 := Lib.hid (HM1.out.later hB)
  have HP2 := Lib.hid (HP1.out.later hB)
  have HS2 := Lib.hid (HS1.out.later hB)
  have HT2 := Lib.hid (HT1.out.later hB)
  clear HB1 HU1 HV1 HM1 HP1 HS1 HT1
  clear hB hu
  obtain ⟨f2, hf2⟩ : ∃ b, fewU a2 = b := ⟨_, rfl⟩
  have hu := HV2.out
  go_wp2_with ((with_reducible refine wp_load27 (o := ⟨some 18, .load 27 (.tmp 5), _, _, _, _⟩) ?_ (.tmp 5) ?_ (w.heap.size + 1) ?_ a2 v2 l2 hu ?_); (· rfl); (· rfl); (· rfl); simp only [Act.put, List.setIfInBounds_toArray, List.set_cons_zero, List.set_cons_succ])
  refine (few_any a2 v2 l2 f2 hf2 _ HT2.out).mono ?_
  rintro e X3 ⟨rfl, hB⟩
  have HB3 := Lib.hid (below_trans HB2.out hB)
  have HU3 := Lib.hid (HU2.out.later hB)
  have HV3 := Lib.hid (HV2.out.later hB)
  have HM3 := Lib.hid (HM2.out.later hB)
  have HP3 := Lib.hid (HP2.out.later hB)
  have HS3 := Lib.hid (HS2.out.later hB)
  have HT3 := Lib.hid (HT2.out.later hB)
  clear HB2 HU2 HV2 HM2 HP2 HS2 HT2
  clear hB hu
  cases f1
  · go_wp2
    go_ret
    exact ⟨rfl, HX.out.trans (HB3.out.mono HX.out.size)⟩
  cases f2
  · go_wp2
    go_ret
    exact ⟨rfl, HX.out.trans (HB3.out.mono HX.out.size)⟩
  have F1 := few_fit a1 l1 hf1
  have F2 := few_fit a2 l2 hf2
  obtain ⟨c, hc⟩ : ∃ b, Origin.bothU a1 a2 = b := ⟨_, rfl⟩
  have CB := Lib.hid (fun z hm hs ht => both_any a1 a2 v1 v2 F1 F2 c hc m z hm hs ht)
  have HF1 := Lib.hid F1
  have HF2 := Lib.hid F2
  have HFW := Lib.hid hf1
  have HCC := Lib.hid hc
  clear hf1 hf2 F1 F2 hc
  have hu := HU3.out
  have hv := HV3.out
  go_wp2_with (first | ((with_reducible refine wp_load27 (o := ⟨some 31, .load 27 (.tmp 4), _, _, _, _⟩) ?_ (.tmp 4) ?_ w.heap.size ?_ a1 v1 l1 hu ?_); (· rfl); (· rfl); (· rfl); simp only [Act.put, List.setIfInBounds_toArray, List.set_cons_zero, List.set_cons_succ]) | ((with_reducible refine wp_load27 (o := ⟨some 32, .load 27 (.tmp 5), _, _, _, _⟩) ?_ (.tmp 5) ?_ (w.heap.size + 1) ?_ a2 v2 l2 hv ?_); (· rfl); (· rfl); (· rfl); simp only [Act.put, List.setIfInBounds_toArray, List.set_cons_zero, List.set_cons_succ]))
  refine (CB.out _ HM3.out HS3.out HT3.out).mono ?_
  rintro e X4 ⟨rfl, hB⟩
  have HB4 := Lib.hid (below_trans HB3.out hB)
  have HU4 := Lib.hid (HU3.out.later hB)
  have HV4 := Lib.hid (HV3.out.later hB)
  have HM4 := Lib.hid (HM3.out.later hB)
  have HP4 := Lib.hid (HP3.out.later hB)
  have HS4 := Lib.hid (HS3.out.later hB)
  have HT4 := Lib.hid (HT3.out.later hB)
  clear HB3 HU3 HV3 HM3 HP3 HS3 HT3
  clear hB hu hv CB
  cases c
  · go_wp2
    go_ret
    exact ⟨rfl, HX.out.trans (HB4.out.mono HX.out.size)⟩
  have hc := HCC.out
  obtain ⟨g1, g2⟩ := Refer.self_from l1 hc
  obtain ⟨q1, q2⟩ := Refer.self_law l1 HF1.out hc a0
  have fp : Fit (parU (showU a1)) := by rw [g2]; exact HF1.out
  obtain ⟨b, hb⟩ : ∃ b, Refer.refB a0 (showU a1) a2 = b := ⟨_, rfl⟩
  obtain ⟨X, hX⟩ : ∃ x, tb (Refer.refT a0 (showU a1) a2) = x := ⟨_, rfl⟩
  obtain ⟨W1, hW⟩ : ∃ x, tb (Strip.whlT a1) = x := ⟨_, rfl⟩
  obtain ⟨V, hV⟩ : ∃ u, parU (Refer.refT a0 (showU a1) a2) = u := ⟨_, rfl⟩
  have CS := Lib.hid (fun z hm hs => Show.show_any a1 v1 HF1.out _ rfl m z hm hs)
  have CR := Lib.hid (fun z hm ht hT => Refer.referer_any a0 (showU a1) a2 v2 (few_show a1 l1 HFW.out) fp HF2.out b hb X hX m z hm ht hT (fun _ => Six.known))
  have CO := Lib.hid (fun z hs => Show.open_any a1 v1 HF1.out z hs)
  have CW := Lib.hid (fun v z hm hs => Show.show_any (openU a1) v (open_fit HF1.out) W1 hW m z hm hs)
  have K1 := Lib.hid (show a0 = 1 → b = false ∧ X = ⟨#[]⟩ from fun h => by
    obtain ⟨e1, e2⟩ := q1 h
    exact ⟨hb.symm.trans e1, by rw [← hX, e2]; rfl⟩)
  have K2 := Lib.hid (show a0 ≠ 1 → b = true ∧ okU (Refer.refT a0 (showU a1) a2) = true ∧ Origin.bothU a1 V = true ∧ Fit V ∧ X.size ≤ W1.size ∧ X.size ≤ 4096 ∧ (a0 ≠ 4 → a0 ≠ 5 → W1.size ≤ 4096 → X = W1) from fun h => by
    obtain ⟨e1, e2, e3, e4, e5, e6, e7⟩ := q2 h
    rw [hV] at e3 e4
    refine ⟨hb.symm.trans e1, e2, e3, e4, ?_, ?_, fun n4 n5 hl => ?_⟩
    · rw [size_tb hX, size_tb hW]; exact e5
    · rw [size_tb hX]; exact e6
    · rw [size_tb hW] at hl
      rw [← hX, ← hW, e7 n4 n5 hl])
  have HVV := Lib.hid hV
  have HXX := Lib.hid hX
  clear hc g1 g2 q1 q2 fp hb hX hW hV HCC HF2 HFW
  go_wp2_with fail
  have hc : Below X4.heap.size X4 X4.drew := (Below.refl _ _).drew
  refine wp_region_held_drew (S := fun v => UrlAt v w.heap.size a1 v1 ∧ UrlAt v (w.heap.size + 1) a2 v2) (by kernel_rfl) (⟨HU4.out.later hc, HV4.out.later hc⟩) (fun hS => ?_)
  refine wpAnyH_take (i := 0) (oi := ⟨some 38, .move (.tmp 0), _, _, _, _⟩) (v := .int .i64 a0) rfl (by kernel_rfl) (by kernel_rfl) (by kernel_rfl) (fun _ _ _ h => h) (Or.inl ⟨by rfl, ?_⟩) (by assumption) ?_
  · (intro v hv; go_simp)
  simp only [Act.put, List.setIfInBounds_toArray, List.set_cons_zero, List.set_cons_succ]
  refine wpAnyH_take (i := 1) (oi := ⟨some 39, .load 27 (.tmp 4), _, _, _, _⟩) (v := .agg (cU a1 v1)) rfl (by kernel_rfl) (by kernel_rfl) (by kernel_rfl) (fun _ _ _ h => h) (Or.inl ⟨by rfl, ?_⟩) (by assumption) ?_
  · (exact fun v hv => run_load_of 27 (.tmp 4) ⟨w.heap.size, 0, none⟩ rfl (.agg (cU a1 v1)) (hv.1.load l1))
  simp only [Act.put, List.setIfInBounds_toArray, List.set_cons_zero, List.set_cons_succ]
  refine wpAnyH_take (i := 3) (oi := ⟨some 41, .load 27 (.tmp 5), _, _, _, _⟩) (v := .agg (cU a2 v2)) rfl (by kernel_rfl) (by kernel_rfl) (by kernel_rfl) (fun _ _ _ h => h) (Or.inl ⟨by rfl, ?_⟩) (by assumption) ?_
  · (exact fun v hv => run_load_of 27 (.tmp 5) ⟨(w.heap.size + 1), 0, none⟩ rfl (.agg (cU a2 v2)) (hv.2.load l2))
  simp only [Act.put, List.setIfInBounds_toArray, List.set_cons_zero, List.set_cons_succ]
  refine wpAnyH_ready (rs := [2]) (by kernel_rfl) (by simp) ?_
  refine AllReadyH.cons (o := ⟨some 40, .call ⟨.value (.func 8), #[.tmp 39], _⟩, _, _, _, _⟩) rfl (fun K hK => ?_) AllReadyH.nil
  go_simp
  go_at_call 8
  refine (CS.out _ (HM4.out.later hc) (HS4.out.later hc)).mono ?_
  rintro e x ⟨rfl, hB⟩
  have hc := below_trans hc hB
  refine hK.out _ _ (⟨HU4.out.later hc, HV4.out.later hc⟩) (fun hS => ?_)
  clear hB
  refine wpAnyH_ready (rs := [4]) (by kernel_rfl) (by simp) ?_
  refine AllReadyH.cons (o := ⟨some 42, .call ⟨.value (.func 7), #[.tmp 38, .tmp 40, .tmp 41], _⟩, _, _, _, _⟩) rfl (fun K hK => ?_) AllReadyH.nil
  go_simp
  go_at_call 7
  refine (CR.out _ (HM4.out.later hc) (HT4.out.later hc) (HP4.out.later hc)).mono ?_
  rintro e x ⟨rfl, hB⟩
  have hc := below_trans hc hB
  refine hK.out _ _ (⟨HU4.out.later hc, HV4.out.later hc⟩) (fun hS => ?_)
  clear hB
  refine wpAnyH_take (i := 5) (oi := ⟨some 37, .move (.tmp 42), _, _, _, _⟩) (v := .tuple #[.string X, .bool b]) rfl (by kernel_rfl) (by kernel_rfl) (by kernel_rfl) (fun _ _ _ h => h) (Or.inl ⟨by rfl, ?_⟩) (by assumption) ?_
  · (intro v hv; go_simp)
  simp only [Act.put, List.setIfInBounds_toArray, List.set_cons_zero, List.set_cons_succ]
  refine wpAnyH_take (i := 6) (oi := ⟨some 43, .extract (.tmp 37) 0, _, _, _, _⟩) (v := .string X) rfl (by kernel_rfl) (by kernel_rfl) (by kernel_rfl) (fun _ _ _ h => h) (Or.inl ⟨by rfl, ?_⟩) (by assumption) ?_
  · (intro v hv; go_simp)
  simp only [Act.put, List.setIfInBounds_toArray, List.set_cons_zero, List.set_cons_succ]
  refine wpAnyH_take (i := 7) (oi := ⟨some 44, .extract (.tmp 37) 1, _, _, _, _⟩) (v := .bool b) rfl (by kernel_rfl) (by kernel_rfl) (by kernel_rfl) (fun _ _ _ h => h) (Or.inl ⟨by rfl, ?_⟩) (by assumption) ?_
  · (intro v hv; go_simp)
  simp only [Act.put, List.setIfInBounds_toArray, List.set_cons_zero, List.set_cons_succ]
  refine wpAnyH_take (i := 8) (oi := ⟨some 10, .assign (.tmp 43), _, _, _, _⟩) (v := .string X) rfl (by kernel_rfl) (by kernel_rfl) (by kernel_rfl) (fun _ _ _ h => h) (Or.inl ⟨by rfl, ?_⟩) (by assumption) ?_
  · (intro v hv; go_simp)
  simp only [Act.put, List.setIfInBounds_toArray, List.set_cons_zero, List.set_cons_succ]
  refine wpAnyH_take (i := 9) (oi := ⟨some 11, .assign (.tmp 44), _, _, _, _⟩) (v := .bool b) rfl (by kernel_rfl) (by kernel_rfl) (by kernel_rfl) (fun _ _ _ h => h) (Or.inl ⟨by rfl, ?_⟩) (by assumption) ?_
  · (intro v hv; go_simp)
  simp only [Act.put, List.setIfInBounds_toArray, List.set_cons_zero, List.set_cons_succ]
  refine wpAnyH_done (by kernel_rfl) ?_ _
  have HB5 := Lib.hid (below_trans HB4.out hc)
  have HU5 := Lib.hid (HU4.out.later hc)
  have HV5 := Lib.hid (HV4.out.later hc)
  have HM5 := Lib.hid (HM4.out.later hc)
  have HP5 := Lib.hid (HP4.out.later hc)
  have HS5 := Lib.hid (HS4.out.later hc)
  have HT5 := Lib.hid (HT4.out.later hc)
  clear HB4 HU4 HV4 HM4 HP4 HS4 HT4
  clear hc CS CR
  have hu := HU5.out
  go_wp2_with ((with_reducible refine wp_load27 (o := ⟨some 45, .load 27 (.tmp 4), _, _, _, _⟩) ?_ (.tmp 4) ?_ w.heap.size ?_ a1 v1 l1 hu ?_); (· rfl); (· rfl); (· rfl); simp only [Act.put, List.setIfInBounds_toArray, List.set_cons_zero, List.set_cons_succ])
  refine (CO.out _ HS5.out).mono ?_
  rintro e X5 ⟨v3, rfl, hst, hn, hB⟩
  have HB6 := Lib.hid (below_trans HB5.out hB)
  have HU6 := Lib.hid (HU5.out.later hB)
  have HV6 := Lib.hid (HV5.out.later hB)
  have HM6 := Lib.hid (HM5.out.later hB)
  have HP6 := Lib.hid (HP5.out.later hB)
  have HS6 := Lib.hid (HS5.out.later hB)
  have HT6 := Lib.hid (HT5.out.later hB)
  clear HB5 HU5 HV5 HM5 HP5 HS5 HT5
  clear hB hu CO hn
  go_wp2_with fail
  refine (CW.out _ _ HM6.out hst).mono ?_
  rintro e X6 ⟨rfl, hB⟩
  have HB7 := Lib.hid (below_trans HB6.out hB)
  have HU7 := Lib.hid (HU6.out.later hB)
  have HV7 := Lib.hid (HV6.out.later hB)
  have HM7 := Lib.hid (HM6.out.later hB)
  have HP7 := Lib.hid (HP6.out.later hB)
  have HS7 := Lib.hid (HS6.out.later hB)
  have HT7 := Lib.hid (HT6.out.later hB)
  clear HB6 HU6 HV6 HM6 HP6 HS6 HT6
  clear hB CW hst
  by_cases h1 : a0 = 1
  · have r1 : (a0 == 1) = true := beq_iff_eq.2 h1
    obtain ⟨rfl, rfl⟩ := K1.out h1
    clear K1 K2 HVV HXX
    go_wp2
    go_ret
    exact ⟨rfl, HX.out.trans (HB7.out.mono HX.out.size)⟩
  · have r1 : (a0 == 1) = false := beq_eq_false_iff_ne.2 h1
    obtain ⟨rfl, k2, k3, k4, k5, k6, k7⟩ := K2.out h1
    have LV : V.h.p.length = 8 := k4.h8
    have CP := Lib.hid (fun z hm => parse_at (Refer.refT a0 (showU a1) a2) (by rw [← size_tb HXX.out]; exact Nat.le_trans k6 (by decide)) V true HVV.out k2 m z hm)
    rw [HXX.out] at CP
    have CB := Lib.hid (fun z pv hm hs ht => both_any a1 V v1 pv HF1.out k4 true k3 m z hm hs ht)
    have K5 := Lib.hid k5
    have K7 := Lib.hid k7
    clear k2 k3 k4 k5 k6 k7 K1 K2 HVV HXX HF1
    go_wp2_with fail
    refine (CP.out _ HM7.out).mono ?_
    rintro e X7 ⟨pv, rfl, hst, hn, hB⟩
    clear CP
    have hone := strs_one hst
    have hnew := new_url X7
    have hB2 := below_trans hB (below_url X7 V pv)
    have HB8 := Lib.hid (below_trans HB7.out hB2)
    have HU8 := Lib.hid (HU7.out.later hB2)
    have HV8 := Lib.hid (HV7.out.later hB2)
    have HM8 := Lib.hid (HM7.out.later hB2)
    have HP8 := Lib.hid (HP7.out.later hB2)
    have HS8 := Lib.hid (HS7.out.later hB2)
    have HT8 := Lib.hid (HT7.out.later hB2)
    have HR8 := Lib.hid (hst.later (below_url X7 V pv))
    have HY8 := Lib.hid (hnew.row V pv)
    clear HB7 HU7 HV7 HM7 HP7 HS7 HT7 hst hn hB hB2
    have hu0 := HU8.out
    have hu1 := HY8.out
    go_wp2_with (first | ((with_reducible refine wp_store27 (o := ⟨none, .store 27 (.tmp 13) (.tmp 59), _, _, _, _⟩) ?_ (.tmp 13) (.tmp 59) ?_ X7.heap.size ?_ V pv ?_ LV hone none1 (.slice none 0 0) rfl hnew ?_); (· rfl); (· rfl); (· rfl); (· rfl); simp only [Act.put, List.setIfInBounds_toArray, List.set_cons_zero, List.set_cons_succ]) | ((with_reducible refine wp_load27 (o := ⟨some 68, .load 27 (.tmp 4), _, _, _, _⟩) ?_ (.tmp 4) ?_ w.heap.size ?_ a1 v1 l1 hu0 ?_); (· rfl); (· rfl); (· rfl); simp only [Act.put, List.setIfInBounds_toArray, List.set_cons_zero, List.set_cons_succ]) | ((with_reducible refine wp_load27 (o := ⟨some 69, .load 27 (.tmp 13), _, _, _, _⟩) ?_ (.tmp 13) ?_ X7.heap.size ?_ V pv LV hu1 ?_); (· rfl); (· rfl); (· rfl); simp only [Act.put, List.setIfInBounds_toArray, List.set_cons_zero, List.set_cons_succ]))
    clear hu0 hu1
    generalize (X7.alloc (.cells #[.string ⟨#[]⟩, .string ⟨#[]⟩, .string ⟨#[]⟩, .int .i64 0, .string ⟨#[]⟩, .int .i64 0, .int .i64 0, .int .i64 0, .int .i64 0, .int .i64 0, .int .i64 0, .int .i64 0, .int .i64 0, .int .i64 0, .int .i64 0, .slice none 0 0, .string ⟨#[]⟩, .string ⟨#[]⟩, .string ⟨#[]⟩, .bool false, .bool false] 27)).setRow X7.heap.size (cU V pv) = V8 at HB8 HU8 HV8 HM8 HP8 HS8 HT8 HR8 HY8 ⊢
    generalize X7.heap.size = gx at HY8 ⊢
    clear hnew hone
    refine (CB.out _ _ HM8.out HS8.out HR8.out).mono ?_
    rintro e X8 ⟨rfl, hB⟩
    have HB9 := Lib.hid (below_trans HB8.out hB)
    have HU9 := Lib.hid (HU8.out.later hB)
    have HV9 := Lib.hid (HV8.out.later hB)
    have HM9 := Lib.hid (HM8.out.later hB)
    have HP9 := Lib.hid (HP8.out.later hB)
    have HS9 := Lib.hid (HS8.out.later hB)
    have HT9 := Lib.hid (HT8.out.later hB)
    have HY9 := Lib.hid (HY8.out.later hB)
    have HR9 := Lib.hid (HR8.out.later hB)
    clear HB8 HU8 HV8 HM8 HP8 HS8 HT8 HY8 HR8
    clear hB CB
    have k5 := K5.out
    have d5 : decide ((X.size : Int) ≤ (W1.size : Int)) = true := decide_eq_true (by omega)
    by_cases h4 : a0 = 4
    · have r4 : (a0 == 4) = true := beq_iff_eq.2 h4
      clear K5 K7
      go_wp2
      go_ret
      exact ⟨rfl, HX.out.trans (HB9.out.mono HX.out.size)⟩
    · have r4 : (a0 == 4) = false := beq_eq_false_iff_ne.2 h4
      by_cases h5 : a0 = 5
      · have r5 : (a0 == 5) = true := beq_iff_eq.2 h5
        clear K5 K7
        go_wp2
        go_ret
        exact ⟨rfl, HX.out.trans (HB9.out.mono HX.out.size)⟩
      · have r5 : (a0 == 5) = false := beq_eq_false_iff_ne.2 h5
        by_cases hl : W1.size ≤ 4096
        · have r6 : decide ((4096 : Int) < (W1.size : Int)) = false := decide_eq_false (by omega)
          obtain rfl := K7.out h4 h5 hl
          have e8 : (X.toList == X.toList) = true := beq_iff_eq.2 rfl
          clear K5 K7
          go_wp2
          go_ret
          exact ⟨rfl, HX.out.trans (HB9.out.mono HX.out.size)⟩
        · have r6 : decide ((4096 : Int) < (W1.size : Int)) = true := decide_eq_true (by omega)
          clear K5 K7
          go_wp2
          go_ret
          exact ⟨rfl, HX.out.trans (HB9.out.mono HX.out.size)⟩

/-! ### The row's step -/
theorem reads (os : Os) {H : Type} (enc : TypeId × Value → H) : (DataW.whole enc Tryz.prog ((Card.laidWorld os).forCall (fun _ _ => 0) ⟨#[], #[.int .i64 0, .agg #[.string ByteArray.empty, .string ByteArray.empty, .string ByteArray.empty, .int .i64 0, .string ByteArray.empty, .int .i64 0, .int .i64 0, .int .i64 0, .int .i64 0, .int .i64 0, .int .i64 0, .int .i64 0, .int .i64 0, .int .i64 0, .int .i64 0, .slice none 0 0, .string ByteArray.empty, .string ByteArray.empty, .string ByteArray.empty, .bool false, .bool false], .agg #[.string ByteArray.empty, .string ByteArray.empty, .string ByteArray.empty, .int .i64 0, .string ByteArray.empty, .int .i64 0, .int .i64 0, .int .i64 0, .int .i64 0, .int .i64 0, .int .i64 0, .int .i64 0, .int .i64 0, .int .i64 0, .int .i64 0, .slice none 0 0, .string ByteArray.empty, .string ByteArray.empty, .string ByteArray.empty, .bool false, .bool false]], []⟩).memory Tryz.f3.params.toList Rows.referSelfSpec.vars false (#[.int .i64 0, .agg #[.string ByteArray.empty, .string ByteArray.empty, .string ByteArray.empty, .int .i64 0, .string ByteArray.empty, .int .i64 0, .int .i64 0, .int .i64 0, .int .i64 0, .int .i64 0, .int .i64 0, .int .i64 0, .int .i64 0, .int .i64 0, .int .i64 0, .slice none 0 0, .string ByteArray.empty, .string ByteArray.empty, .string ByteArray.empty, .bool false, .bool false], .agg #[.string ByteArray.empty, .string ByteArray.empty, .string ByteArray.empty, .int .i64 0, .string ByteArray.empty, .int .i64 0, .int .i64 0, .int .i64 0, .int .i64 0, .int .i64 0, .int .i64 0, .int .i64 0, .int .i64 0, .int .i64 0, .int .i64 0, .slice none 0 0, .string ByteArray.empty, .string ByteArray.empty, .string ByteArray.empty, .bool false, .bool false]] : Array Value).toList 8).map (fun x => (x.1, x.2.1)) = some ([.lit (.int .i64 0), .agg [.lit (.string []), .lit (.string []), .lit (.string []), .agg [.lit (.int .i64 0), .lit (.string []), .lit (.int .i64 0), .agg [.lit (.int .i64 0), .lit (.int .i64 0), .lit (.int .i64 0), .lit (.int .i64 0), .lit (.int .i64 0), .lit (.int .i64 0), .lit (.int .i64 0), .lit (.int .i64 0)]], .lit (.int .i64 0), .nil, .lit (.string []), .lit (.string []), .lit (.string []), .lit (.bool false), .lit (.bool false)], .agg [.lit (.string []), .lit (.string []), .lit (.string []), .agg [.lit (.int .i64 0), .lit (.string []), .lit (.int .i64 0), .agg [.lit (.int .i64 0), .lit (.int .i64 0), .lit (.int .i64 0), .lit (.int .i64 0), .lit (.int .i64 0), .lit (.int .i64 0), .lit (.int .i64 0), .lit (.int .i64 0)]], .lit (.int .i64 0), .nil, .lit (.string []), .lit (.string []), .lit (.string []), .lit (.bool false), .lit (.bool false)]], []) := by kernel_rfl
set_option maxRecDepth 100000 in
theorem lifted (os : Os) (started : os.Started) (H : Type) (enc : TypeId × Value → H) (F : Stop.Interp) :
    ReturnsInHanded {} Tryz.checked os 3 .any ((OpenSpec.ofChange Rows.referSelfSpec).preRow enc Tryz.prog Tryz.f3 Rows.referSelfRow.domain false Rows.referSelfRow.laid) (((OpenSpec.ofChange Rows.referSelfSpec).at F).post enc Tryz.prog Tryz.f3 false true false false) := by
  obtain ⟨⟨x1, x2, x3⟩, hx, hx1⟩ := Option.map_eq_some_iff.1 (reads os enc)
  simp only [Prod.mk.injEq] at hx1
  obtain ⟨rfl, rfl⟩ := hx1
  refine returnsInHanded_of_row (C := Tryz.checked) (s := OpenSpec.ofChange Rows.referSelfSpec) own started (by kernel_rfl) Tryz.func3
    (witness_row_at (enc := enc) (C := Tryz.checked) false (Card.laidWorld os) #[.int .i64 0, .agg #[.string ByteArray.empty, .string ByteArray.empty, .string ByteArray.empty, .int .i64 0, .string ByteArray.empty, .int .i64 0, .int .i64 0, .int .i64 0, .int .i64 0, .int .i64 0, .int .i64 0, .int .i64 0, .int .i64 0, .int .i64 0, .int .i64 0, .slice none 0 0, .string ByteArray.empty, .string ByteArray.empty, .string ByteArray.empty, .bool false, .bool false], .agg #[.string ByteArray.empty, .string ByteArray.empty, .string ByteArray.empty, .int .i64 0, .string ByteArray.empty, .int .i64 0, .int .i64 0, .int .i64 0, .int .i64 0, .int .i64 0, .int .i64 0, .int .i64 0, .int .i64 0, .int .i64 0, .int .i64 0, .slice none 0 0, .string ByteArray.empty, .string ByteArray.empty, .string ByteArray.empty, .bool false, .bool false]] rfl (by kernel_rfl) (by kernel_rfl) (by kernel_rfl)
      (OpenSpec.preRow_of_cond 8 hx (by kernel_rfl) (fun k hk => by cases hk) (by kernel_rfl) (Card.laid_met os _))) ?_
  intro W base args ds gs before hval0 hW _ _ _ hL hsh _
  obtain ⟨m, hmax⟩ := Card.maxLen_int hsh
  have hm : Six.At m W := ⟨hmax, fun _ => Six.tab_of hL⟩
  have hT : Policy.TabAt W := Card.levels_of hL
  have hval : ∀ (j : Nat) t v, Tryz.f3.params[j]? = some t → args[j]? = some v → Value.okWide Tryz.prog W .any base t v := hval0
  have hW' := hW
  obtain ⟨p, q, hA0, hV, rfl, hfz, hnd⟩ := hW
  have hA : DataW.TrodAll enc Tryz.prog W 0 (fun _ => true) true Tryz.f3.params.toList args.toList ds p := hA0
  rw [Tryz.params3] at hA hval
  obtain ⟨v0, vs0, d0, ds0, p0, q0, hargs0, rfl, rfl, t0, r0⟩ := trodAll_cons hA
  obtain ⟨v1, vs1, d1, ds1, p1, q1, hargs1, rfl, rfl, t1, r1⟩ := trodAll_cons r0
  obtain ⟨v2, vs2, d2, ds2, p2, q2, hargs2, rfl, rfl, t2, r2⟩ := trodAll_cons r1
  obtain ⟨rfl, rfl, rfl⟩ := trodAll_nil r2
  obtain rfl : args = #[v0, v1, v2] := by cases args; simp_all
  obtain ⟨rfl, rfl⟩ := trodVars_none hV
  obtain ⟨a0, rfl, rfl, rfl, w0⟩ := open_int Tryz.underlying3 (hval 0 3 v0 rfl rfl) t0
  have k1 := t1
  have lt1 : ∀ x ∈ p1, x.block < W.heap.size := by obtain ⟨m, hm⟩ := k1; exact DataW.trod_lt m _ _ _ hm
  obtain ⟨a1, pv1, l1, rfl, z1, w1⟩ := Url.open_url (hval 1 27 v1 rfl rfl) t1
  have k2 := t2
  have lt2 : ∀ x ∈ p2, x.block < W.heap.size := by obtain ⟨m, hm⟩ := k2; exact DataW.trod_lt m _ _ _ hm
  obtain ⟨a2, pv2, l2, rfl, z2, w2⟩ := Url.open_url (hval 2 27 v2 rfl rfl) t2
  clear hA0 hval0
  simp only [List.append_nil] at hW'
  refine (walk a0 a1 pv1 l1 a2 pv2 l2 w0 m W hm hT z1 w1 z2 w2).mono fun e W' ⟨he, bel⟩ => ?_
  subst he
  exact ⟨_, rfl, _, _, _, [], _, [], hW', trodAll_mk1 (shut_bool Tryz.underlying4 _), (trodAll_cons_mk (shut_int Tryz.underlying3 w0) (trodAll_cons_mk (Below.trod laidOut (by kernel_rfl) (of_decide_eq_true (by kernel_rfl)) k1 bel lt1) (trodAll_cons_mk (Below.trod laidOut (by kernel_rfl) (of_decide_eq_true (by kernel_rfl)) k2 bel lt2) trodAll_mk0))), rfl, bel.frame _, fun h => by cases h⟩

theorem said : Rows.referSelfRow.holds Tryz.pinned (OpenSpec.ofChange Rows.referSelfSpec) :=
  OpenClaim.holds_of_cond 3 Tryz.f3 rfl rfl rfl rfl rfl rfl rfl ⟨rfl, rfl, rfl, rfl, rfl⟩ rfl rfl rfl rfl rfl (by kernel_rfl) Tryz.func3 (by kernel_rfl)
    (of_decide_eq_true (by kernel_rfl)) (by unfold Func.isWrapper; first | (rw [if_pos (by decide +kernel)]; kernel_rfl) | (rw [if_neg (by decide +kernel)]; exact ⟨rfl, rfl⟩))
    (fun os started H enc _ F => by rw [OpenClaim.pre_eq_preRow]; exact lifted os started H enc F)

/-- No parameter wants a stand-in; the program's own looks are on. -/
theorem plain (f : FuncId) (fn : Func) (hf : Tryz.pinned.checked.prog.funcNamed Rows.referSelfRow.func = some f) (hfn : Tryz.pinned.checked.prog.funcs[f]? = some fn) :
    true = Tryz.pinned.checked.prog.looks [] ∧ ∀ (j : Nat) t, fn.params[j]? = some t → Tryz.pinned.checked.prog.wantsStandIn t = false := by
  obtain rfl : f = 3 := Option.some.inj ((show Tryz.prog.funcNamed Rows.referSelfRow.func = some 3 by kernel_rfl).symm.trans hf) |>.symm
  obtain rfl : fn = Tryz.f3 := (Option.some.inj (Tryz.func3.symm.trans hfn)).symm
  refine ⟨by kernel_rfl, fun j t ht => ?_⟩
  rw [Tryz.params3] at ht
  obtain rfl | rfl : t = 3 ∨ t = 27 := by simpa using Array.mem_of_getElem? ht
  · exact (show Tryz.prog.wantsStandIn 3 = false by kernel_rfl)
  · exact (show Tryz.prog.wantsStandIn 27 = false by kernel_rfl)

/-- The statement: the card. -/
theorem proved : Rows.ReferSelfCardSaid :=
  Claim7.holds_tied_plain_at .later [] _ _ _ _ said (fun _ h => by cases h) (by kernel_rfl) (fun _ h => by cases h) referSelf_row_tie rfl ⟨rfl, rfl⟩ (by kernel_rfl) rfl plain (by kernel_rfl)
#print axioms proved
end Go.Proofs.YtbehcipclnmiiaaGreatDoor.referSelf
