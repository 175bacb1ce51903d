/-
  WHAT IS PROVED: the card of JoinTells: any text of at most 300 bytes is one of its own, or not, and tells the address beside any other one, or none, and any address has another one's fragment, as the document says (addresses whose parts are few and short).
  CONDITIONS: none but the card's own: the listed tables read as their texts lay them; the addresses and the text are any.
-/
import Derived.Test.YtkhjhiofgoampaaGreatDoorCards
import Derived.Test.YtkhjhiofgoampaaGreatDoorTie
import Derived.WalkKit
import Derived.ProofKit
import Derived.OpenShut
import Derived.ShutString
import Derived.ChangeOld
import Derived.Below
import Derived.Deep.RegionHeld
import Derived.Laws.AppendOwnNone
import Derived.Test.YtkhjhiofgoampaaGreatDoorJAwake
import Derived.Test.YtkhjhiofgoampaaGreatDoorJRefC
import Derived.Test.YtkhjhiofgoampaaGreatDoorLaid
import Derived.Test.YtkhjhiofgoampaaGreatDoorHOpen
namespace Go.Proofs.YtkhjhiofgoampaaGreatDoor.joinTells
open Go.ChangeShapes Go.WideShapes Go.ChangeAt Go.RowKit
open Go.ChangeMaps (open_string shut_string)
open Go.Shelf
open Go.Proofs.YtkhjhiofgoampaaGreatDoor.Url
open Go.Proofs.YtkhjhiofgoampaaGreatDoor.Host (H)
open Go.Proofs.YtkhjhiofgoampaaGreatDoor.Path (Strs)
set_option linter.unusedSimpArgs false
set_option linter.unusedVariables false

theorem own : ownKnob Tryz.prog.godebug = none := by kernel_rfl
theorem laidOut : laidOutB Tryz.prog = true := by kernel_rfl

open Go.Proofs.YtkhjhiofgoampaaGreatDoor.Show
open Go.Proofs.YtkhjhiofgoampaaGreatDoor.Join
theorem few_path {u : U} (h : fewU u = true) : u.path.length ≤ 60 ∧ ∀ t ∈ u.path, t.length ≤ 300 := by
  unfold fewU at h
  rw [Bool.and_eq_true] at h
  exact (Path.few_iff _).1 h.1
theorem few_sch {u : U} (h : fewU u = true) : u.sch.length ≤ 300 := by
  unfold fewU at h
  simp only [Bool.and_eq_true, le3_iff] at h
  exact h.2.1
theorem res8 (b : U) (s : T) (h : b.h.p.length = 8) : (resR b s).h.p.length = 8 := by
  unfold resR
  split
  · unfold resIn
    split
    · exact par8 _
    · split
      · rfl
      · split
        · exact par8u _
        · exact h
  · rfl
set_option maxRecDepth 100000
set_option maxHeartbeats 16000000 in
theorem walk (a0 : U) (v0 : Value) (l0 : a0.h.p.length = 8) (a1 : ByteArray) (a2 : U) (v2 : Value) (l2 : a2.h.p.length = 8) (w1 : a1.size ≤ maxLen) (m : Int) (w : World) (hm : Six.At m w) (s0 : Path.Strs w v0 a0.path) (w0 : (Lit.int .i64 a0.port).wf = true) (s2 : Path.Strs w v2 a2.path) (w2 : (Lit.int .i64 a2.port).wf = true) :
    Calls Tryz.prog 3 #[.agg (cU a0 v0), .string a1, .agg (cU a2 v2)] w fun e w' => e = .returned (.bool true) ∧ Below w.heap.size w w' := by
  have e1 : (w.alloc (.cells (cU a0 v0) 27)).heap.size = w.heap.size + 1 := Array.size_push _
  have b1 : Below w.heap.size w (w.alloc (.cells (cU a0 v0) 27)) := (Below.refl w.heap.size w).alloc (Nat.le_refl _) _
  have b2 : Below w.heap.size w ((w.alloc (.cells (cU a0 v0) 27)).alloc (.cells (cU a2 v2) 27)) := b1.alloc (by omega) _
  have HX := Lib.hid b2
  have HU0 := Lib.hid ((UrlAt.new w a0 v0).past (.cells (cU a2 v2) 27))
  have HV0 := Lib.hid (show UrlAt ((w.alloc (.cells (cU a0 v0) 27)).alloc (.cells (cU a2 v2) 27)) (w.heap.size + 1) a2 v2 from by rw [← e1]; exact UrlAt.new (w.alloc (.cells (cU a0 v0) 27)) a2 v2)
  have HM0 := Lib.hid (hm.later HX.out)
  have HS0 := Lib.hid (s0.later HX.out)
  have HT0 := Lib.hid (s2.later HX.out)
  clear hm e1 b1 b2 s0 s2
  go_enter Tryz.func3, Tryz.ntmps3
  go_wp2_with fail
  generalize ((w.alloc (.cells (cU a0 v0) 27)).alloc (.cells (cU a2 v2) 27)) = X0 at HX HM0 HU0 HS0 HV0 HT0 ⊢
  have HMX := HM0
  refine (Join.awake_calls m X0 HM0.out).mono ?_
  rintro e X1 ⟨rfl, hB⟩
  have HB1 := Lib.hid (hB)
  have HU1 := Lib.hid (HU0.out.later hB)
  have HV1 := Lib.hid (HV0.out.later hB)
  have HM1 := Lib.hid (HM0.out.later hB)
  have HS1 := Lib.hid (HS0.out.later hB)
  have HT1 := Lib.hid (HT0.out.later hB)
  clear HU0 HV0 HM0 HS0 HT0
  clear hB
  obtain ⟨f0, hf0⟩ : ∃ b, fewU a0 = b := ⟨_, rfl⟩
  have hu := HU1.out
  go_wp2_with ((with_reducible refine wp_load27 (o := ⟨some 18, .load 27 (.tmp 3), _, _, _, _⟩) ?_ (.tmp 3) ?_ w.heap.size ?_ a0 v0 l0 hu ?_); (· rfl); (· rfl); (· rfl); simp only [Act.put, List.setIfInBounds_toArray, List.set_cons_zero, List.set_cons_succ])
  refine (few_any a0 v0 l0 f0 hf0 _ HS1.out).mono ?_
  rintro e X2 ⟨rfl, hB⟩
  have HB2 := Lib.hid (below_trans HB1.out hB)
  have HU2 := Lib.hid (HU1.out.later hB)
  have HV2 := Lib.hid (HV1.out.later hB)
  have HM2 := Lib.hid (HM1.out.later hB)
  have HS2 := Lib.hid (HS1.out.later hB)
  have HT2 := Lib.hid (HT1.out.later hB)
  clear HB1 HU1 HV1 HM1 HS1 HT1
  clear hB hu
  obtain ⟨f1, hf1⟩ : ∃ b, fewU a2 = b := ⟨_, rfl⟩
  have hu := HV2.out
  go_wp2_with ((with_reducible refine wp_load27 (o := ⟨some 20, .load 27 (.tmp 5), _, _, _, _⟩) ?_ (.tmp 5) ?_ (w.heap.size + 1) ?_ a2 v2 l2 hu ?_); (· rfl); (· rfl); (· rfl); simp only [Act.put, List.setIfInBounds_toArray, List.set_cons_zero, List.set_cons_succ])
  refine (few_any a2 v2 l2 f1 hf1 _ HT2.out).mono ?_
  rintro e X3 ⟨rfl, hB⟩
  have HB3 := Lib.hid (below_trans HB2.out hB)
  have HU3 := Lib.hid (HU2.out.later hB)
  have HV3 := Lib.hid (HV2.out.later hB)
  have HM3 := Lib.hid (HM2.out.later hB)
  have HS3 := Lib.hid (HS2.out.later hB)
  have HT3 := Lib.hid (HT2.out.later hB)
  clear HB2 HU2 HV2 HM2 HS2 HT2
  clear hB hu
  cases f0
  · go_wp2
    go_ret
    exact ⟨rfl, HX.out.trans (HB3.out.mono HX.out.size)⟩
  cases f1
  · go_wp2
    go_ret
    exact ⟨rfl, HX.out.trans (HB3.out.mono HX.out.size)⟩
  obtain ⟨big, hbig⟩ : ∃ b, decide (300 < a1.size) = b := ⟨_, rfl⟩
  have hbig' : decide ((300 : Int) < (a1.size : Int)) = big := by rw [← hbig]; exact decide_eq_decide.2 (by omega)
  cases big
  · have hs : a1.size ≤ 300 := by have := of_decide_eq_false hbig; omega
    have F0 := few_fit a0 l0 hf0
    have F1 := few_fit a2 l2 hf1
    have P0 := few_path hf0
    obtain ⟨wh, hwh⟩ : ∃ b, wholeB a1.data.toList = b := ⟨_, rfl⟩
    obtain ⟨r, hr⟩ : ∃ b, okR a0 a1.data.toList = b := ⟨_, rfl⟩
    obtain ⟨X, hX⟩ : ∃ b, resR a0 a1.data.toList = b := ⟨_, rfl⟩
    obtain ⟨I, hI⟩ : ∃ b, inhU a2 a0 = b := ⟨_, rfl⟩
    have hsc : a0.sch.length ≤ 1000 := by have := few_sch hf0; omega
    have hI8 : I.h.p.length = 8 := by rw [← hI]; unfold inhU; split <;> exact l2
    have hIp : I.path = a2.path := by rw [← hI]; unfold inhU; split <;> rfl
    have hX8 : X.h.p.length = 8 := by rw [← hX]; exact res8 a0 _ l0
    have CR := Lib.hid (fun y hm hs => resolve_any a0 v0 F0 (by have := P0.1; omega) hsc a1 (by omega) r hr X hX m y hm hs)
    have CT := Lib.hid (fun y hs => refResolve_any a0 v0 F0 (by have := P0.1; omega) (fun t ht => by have := P0.2 t ht; omega) a1 (by omega) r hr X hX y hs)
    have CI := Lib.hid (fun y hs ht => show Calls Tryz.prog 14 #[.agg (cU a2 v2), .agg (cU a0 v0)] y (Got y I) from by rw [← hI]; exact inherit_any a2 a0 v2 v0 F1 F0 y hs ht)
    have CJ := Lib.hid (fun y hs => show Calls Tryz.prog 15 #[.agg (cU a2 v2), .agg (cU a0 v0)] y (fun e w' => e = .returned (.agg (cU I v2)) ∧ Below y.heap.size y w') from by rw [← hI]; exact refInherit_any a2 a0 v2 v0 l2 l0 y hs)
    have CW := Lib.hid (fun y hm => whole_any a1 (by omega) wh hwh m y hm)
    have CV := Lib.hid (fun y => refWhole_any a1 (by omega) wh hwh y)
    have CE := Lib.hid (fun p q y hp hq => refSame_any X X p q hX8 hX8 true ((same_iff _ _).2 rfl) y hp hq)
    have CG := Lib.hid (fun p q y hp hq => refSame_any I I p q hI8 hI8 true ((same_iff _ _).2 rfl) y hp hq)
    have LX := Lib.hid hX8
    have HIP := Lib.hid hIp
    have HBg := Lib.hid hbig'
    have HBh := Lib.hid hbig
    clear hbig hbig' hs hf0 hf1 F0 F1 P0 hwh hr hX hI hsc hI8 hIp hX8
    have hu := HU3.out
    have hbg := HBg.out
    have hbh := HBh.out
    go_wp2_with ((with_reducible refine wp_load27 (o := ⟨some 39, .load 27 (.tmp 3), _, _, _, _⟩) ?_ (.tmp 3) ?_ w.heap.size ?_ a0 v0 l0 hu ?_); (· rfl); (· rfl); (· rfl); simp only [Act.put, List.setIfInBounds_toArray, List.set_cons_zero, List.set_cons_succ])
    refine (CR.out _ HM3.out HS3.out).mono ?_
    rintro e X4 ⟨pv, rfl, hst, hn, hB⟩
    clear hu CR hbg hbh HBg HBh
    have hone := strs_one hst
    have hnew := new_url X4
    have hB2 := below_trans hB (below_url X4 X pv)
    have HB4 := Lib.hid (below_trans HB3.out hB2)
    have HU4 := Lib.hid (HU3.out.later hB2)
    have HV4 := Lib.hid (HV3.out.later hB2)
    have HM4 := Lib.hid (HM3.out.later hB2)
    have HS4 := Lib.hid (HS3.out.later hB2)
    have HT4 := Lib.hid (HT3.out.later hB2)
    have HP4 := Lib.hid (hst.later (below_url X4 X pv))
    have HY4 := Lib.hid (hnew.row X pv)
    clear HB3 HU3 HV3 HM3 HS3 HT3 hst hn hB hB2
    have hu0 := HU4.out
    go_wp2_with (first | ((with_reducible refine wp_store27 (o := ⟨none, .store 27 (.tmp 10) (.tmp 42), _, _, _, _⟩) ?_ (.tmp 10) (.tmp 42) ?_ X4.heap.size ?_ X pv ?_ LX.out hone none1 (.slice none 0 0) rfl hnew ?_); (· rfl); (· rfl); (· rfl); (· rfl); simp only [Act.put, List.setIfInBounds_toArray, List.set_cons_zero, List.set_cons_succ]) | ((with_reducible refine wp_load27 (o := ⟨some 45, .load 27 (.tmp 3), _, _, _, _⟩) ?_ (.tmp 3) ?_ w.heap.size ?_ a0 v0 l0 hu0 ?_); (· rfl); (· rfl); (· rfl); simp only [Act.put, List.setIfInBounds_toArray, List.set_cons_zero, List.set_cons_succ]))
    clear hu0
    generalize (X4.alloc (.cells #[.string ⟨#[]⟩, .string ⟨#[]⟩, .string ⟨#[]⟩, .int .i64 0, .string ⟨#[]⟩, .int .i64 0, .int .i64 0, .int .i64 0, .int .i64 0, .int .i64 0, .int .i64 0, .int .i64 0, .int .i64 0, .int .i64 0, .int .i64 0, .slice none 0 0, .string ⟨#[]⟩, .string ⟨#[]⟩, .string ⟨#[]⟩, .bool false, .bool false] 27)).setRow X4.heap.size (cU X pv) = V4 at HB4 HU4 HV4 HM4 HS4 HT4 HP4 HY4 ⊢
    generalize X4.heap.size = g1 at HY4 ⊢
    clear hnew hone
    refine (CT.out _ HS4.out).mono ?_
    rintro e X5 ⟨qv, rfl, hst, hB⟩
    have hn := trivial
    clear CT
    have hone := strs_one hst
    have hnew := new_url X5
    have hB2 := below_trans hB (below_url X5 X qv)
    have HB5 := Lib.hid (below_trans HB4.out hB2)
    have HU5 := Lib.hid (HU4.out.later hB2)
    have HV5 := Lib.hid (HV4.out.later hB2)
    have HM5 := Lib.hid (HM4.out.later hB2)
    have HS5 := Lib.hid (HS4.out.later hB2)
    have HT5 := Lib.hid (HT4.out.later hB2)
    have HY5 := Lib.hid (HY4.out.later hB2)
    have HP5 := Lib.hid (HP4.out.later hB2)
    have HQ5 := Lib.hid (hst.later (below_url X5 X qv))
    have HZ5 := Lib.hid (hnew.row X qv)
    clear HB4 HU4 HV4 HM4 HS4 HT4 HY4 HP4 hst hn hB hB2
    have hu0 := HY5.out
    have hu1 := HZ5.out
    go_wp2_with (first | ((with_reducible refine wp_store27 (o := ⟨none, .store 27 (.tmp 12) (.tmp 48), _, _, _, _⟩) ?_ (.tmp 12) (.tmp 48) ?_ X5.heap.size ?_ X qv ?_ LX.out hone none1 (.slice none 0 0) rfl hnew ?_); (· rfl); (· rfl); (· rfl); (· rfl); simp only [Act.put, List.setIfInBounds_toArray, List.set_cons_zero, List.set_cons_succ]) | ((with_reducible refine wp_load27 (o := ⟨some 50, .load 27 (.tmp 10), _, _, _, _⟩) ?_ (.tmp 10) ?_ g1 ?_ X pv LX.out hu0 ?_); (· rfl); (· rfl); (· rfl); simp only [Act.put, List.setIfInBounds_toArray, List.set_cons_zero, List.set_cons_succ]) | ((with_reducible refine wp_load27 (o := ⟨some 51, .load 27 (.tmp 12), _, _, _, _⟩) ?_ (.tmp 12) ?_ X5.heap.size ?_ X qv LX.out hu1 ?_); (· rfl); (· rfl); (· rfl); simp only [Act.put, List.setIfInBounds_toArray, List.set_cons_zero, List.set_cons_succ]))
    clear hu0 hu1
    generalize (X5.alloc (.cells #[.string ⟨#[]⟩, .string ⟨#[]⟩, .string ⟨#[]⟩, .int .i64 0, .string ⟨#[]⟩, .int .i64 0, .int .i64 0, .int .i64 0, .int .i64 0, .int .i64 0, .int .i64 0, .int .i64 0, .int .i64 0, .int .i64 0, .int .i64 0, .slice none 0 0, .string ⟨#[]⟩, .string ⟨#[]⟩, .string ⟨#[]⟩, .bool false, .bool false] 27)).setRow X5.heap.size (cU X qv) = V5 at HB5 HU5 HV5 HM5 HS5 HT5 HY5 HP5 HQ5 HZ5 ⊢
    generalize X5.heap.size = g2 at HZ5 ⊢
    clear hnew hone
    refine (CE.out pv qv _ HP5.out HQ5.out).mono ?_
    rintro e X6 ⟨rfl, hB⟩
    have HB6 := Lib.hid (below_trans HB5.out hB)
    have HU6 := Lib.hid (HU5.out.later hB)
    have HV6 := Lib.hid (HV5.out.later hB)
    have HM6 := Lib.hid (HM5.out.later hB)
    have HS6 := Lib.hid (HS5.out.later hB)
    have HT6 := Lib.hid (HT5.out.later hB)
    have HY6 := Lib.hid (HY5.out.later hB)
    have HP6 := Lib.hid (HP5.out.later hB)
    have HZ6 := Lib.hid (HZ5.out.later hB)
    have HQ6 := Lib.hid (HQ5.out.later hB)
    clear HB5 HU5 HV5 HM5 HS5 HT5 HY5 HP5 HZ5 HQ5
    clear hB CE
    go_wp2_with fail
    have hc : Below X6.heap.size X6 X6.drew := (Below.refl _ _).drew
    refine wp_region_held_drew (S := fun v => UrlAt v w.heap.size a0 v0 ∧ UrlAt v (w.heap.size + 1) a2 v2) (by kernel_rfl) ⟨HU6.out.later hc, HV6.out.later hc⟩ (fun hS => ?_)
    refine wpAnyH_take (i := 0) (oi := ⟨some 53, .load 27 (.tmp 5), _, _, _, _⟩) (v := .agg (cU a2 v2)) rfl (by kernel_rfl) (by kernel_rfl) (by kernel_rfl) (fun _ _ _ h => h) (Or.inl ⟨by rfl, ?_⟩) (by assumption) ?_
    · (exact fun v hv => run_load_of 27 (.tmp 5) ⟨(w.heap.size + 1), 0, none⟩ rfl (.agg (cU a2 v2)) (hv.2.load l2))
    simp only [Act.put, List.setIfInBounds_toArray, List.set_cons_zero, List.set_cons_succ]
    refine wpAnyH_take (i := 1) (oi := ⟨some 54, .load 27 (.tmp 3), _, _, _, _⟩) (v := .agg (cU a0 v0)) rfl (by kernel_rfl) (by kernel_rfl) (by kernel_rfl) (fun _ _ _ h => h) (Or.inl ⟨by rfl, ?_⟩) (by assumption) ?_
    · (exact fun v hv => run_load_of 27 (.tmp 3) ⟨w.heap.size, 0, none⟩ rfl (.agg (cU a0 v0)) (hv.1.load l0))
    simp only [Act.put, List.setIfInBounds_toArray, List.set_cons_zero, List.set_cons_succ]
    refine wpAnyH_take (i := 3) (oi := ⟨some 56, .load 27 (.tmp 5), _, _, _, _⟩) (v := .agg (cU a2 v2)) rfl (by kernel_rfl) (by kernel_rfl) (by kernel_rfl) (fun _ _ _ h => h) (Or.inl ⟨by rfl, ?_⟩) (by assumption) ?_
    · (exact fun v hv => run_load_of 27 (.tmp 5) ⟨(w.heap.size + 1), 0, none⟩ rfl (.agg (cU a2 v2)) (hv.2.load l2))
    simp only [Act.put, List.setIfInBounds_toArray, List.set_cons_zero, List.set_cons_succ]
    refine wpAnyH_take (i := 4) (oi := ⟨some 57, .load 27 (.tmp 3), _, _, _, _⟩) (v := .agg (cU a0 v0)) rfl (by kernel_rfl) (by kernel_rfl) (by kernel_rfl) (fun _ _ _ h => h) (Or.inl ⟨by rfl, ?_⟩) (by assumption) ?_
    · (exact fun v hv => run_load_of 27 (.tmp 3) ⟨w.heap.size, 0, none⟩ rfl (.agg (cU a0 v0)) (hv.1.load l0))
    simp only [Act.put, List.setIfInBounds_toArray, List.set_cons_zero, List.set_cons_succ]
    refine wpAnyH_ready (rs := [2]) (by kernel_rfl) (by simp) ?_
    refine AllReadyH.cons (o := ⟨some 55, .call ⟨.value (.func 14), #[.tmp 53, .tmp 54], _⟩, _, _, _, _⟩) rfl (fun K hK => ?_) AllReadyH.nil
    go_simp
    go_at_call 14
    refine (CI.out _ (HT6.out.later hc) (HS6.out.later hc)).mono ?_
    rintro e x ⟨rv, rfl, hrv, hnw, hB⟩
    have hc := below_trans hc hB
    refine hK.out _ _ ⟨HU6.out.later hc, HV6.out.later hc⟩ (fun hS => ?_)
    clear hB hnw
    refine wpAnyH_ready (rs := [5]) (by kernel_rfl) (by simp) ?_
    refine AllReadyH.cons (o := ⟨some 58, .call ⟨.value (.func 15), #[.tmp 56, .tmp 57], _⟩, _, _, _, _⟩) rfl (fun K hK => ?_) AllReadyH.nil
    go_simp
    go_at_call 15
    refine (CJ.out _ (HT6.out.later hc)).mono ?_
    rintro e x ⟨rfl, hB⟩
    have hc := below_trans hc hB
    have hrv := hrv.later hB
    refine hK.out _ _ ⟨HU6.out.later hc, HV6.out.later hc⟩ (fun hS => ?_)
    clear hB
    refine wpAnyH_ready (rs := [6]) (by kernel_rfl) (by simp) ?_
    refine AllReadyH.cons (o := ⟨some 59, .call ⟨.value (.func 13), #[.tmp 55, .tmp 58], _⟩, _, _, _, _⟩) rfl (fun K hK => ?_) AllReadyH.nil
    go_simp
    go_at_call 13
    refine (CG.out rv v2 _ hrv (by rw [HIP.out]; exact HT6.out.later hc)).mono ?_
    rintro e x ⟨rfl, hB⟩
    have hc := below_trans hc hB
    refine hK.out _ _ ⟨HU6.out.later hc, HV6.out.later hc⟩ (fun hS => ?_)
    clear hB hrv
    refine wpAnyH_take (i := 7) (oi := ⟨some 15, .assign (.tmp 59), _, _, _, _⟩) (v := .bool true) rfl (by kernel_rfl) (by kernel_rfl) (by kernel_rfl) (fun _ _ _ h => h) (Or.inl ⟨by rfl, ?_⟩) (by assumption) ?_
    · (intro v hv; go_simp)
    simp only [Act.put, List.setIfInBounds_toArray, List.set_cons_zero, List.set_cons_succ]
    refine wpAnyH_done (by kernel_rfl) ?_ _
    clear hS CI CJ CG
    obtain ⟨Z, hZ⟩ : ∃ y, y = x := ⟨_, rfl⟩
    subst hZ
    have hB := hc
    have HB7 := Lib.hid (below_trans HB6.out hB)
    have HU7 := Lib.hid (HU6.out.later hB)
    have HV7 := Lib.hid (HV6.out.later hB)
    have HM7 := Lib.hid (HM6.out.later hB)
    have HS7 := Lib.hid (HS6.out.later hB)
    have HT7 := Lib.hid (HT6.out.later hB)
    have HY7 := Lib.hid (HY6.out.later hB)
    have HP7 := Lib.hid (HP6.out.later hB)
    have HZ7 := Lib.hid (HZ6.out.later hB)
    have HQ7 := Lib.hid (HQ6.out.later hB)
    clear HB6 HU6 HV6 HM6 HS6 HT6 HY6 HP6 HZ6 HQ6
    clear hB hc
    go_wp2_with fail
    refine (CV.out _).mono ?_
    rintro e X8 ⟨rfl, hB⟩
    have HB8 := Lib.hid (below_trans HB7.out hB)
    have HU8 := Lib.hid (HU7.out.later hB)
    have HV8 := Lib.hid (HV7.out.later hB)
    have HM8 := Lib.hid (HM7.out.later hB)
    have HS8 := Lib.hid (HS7.out.later hB)
    have HT8 := Lib.hid (HT7.out.later hB)
    have HY8 := Lib.hid (HY7.out.later hB)
    have HP8 := Lib.hid (HP7.out.later hB)
    have HZ8 := Lib.hid (HZ7.out.later hB)
    have HQ8 := Lib.hid (HQ7.out.later hB)
    clear HB7 HU7 HV7 HM7 HS7 HT7 HY7 HP7 HZ7 HQ7
    clear hB CV
    have er : (r == r) = true := by cases r <;> rfl
    have ew : (wh == wh) = true := by cases wh <;> rfl
    go_wp2_with fail
    refine (CW.out _ HM8.out).mono ?_
    rintro e X9 ⟨rfl, hB⟩
    have HB9 := Lib.hid (below_trans HB8.out hB)
    have HU9 := Lib.hid (HU8.out.later hB)
    have HV9 := Lib.hid (HV8.out.later hB)
    have HM9 := Lib.hid (HM8.out.later hB)
    have HS9 := Lib.hid (HS8.out.later hB)
    have HT9 := Lib.hid (HT8.out.later hB)
    have HY9 := Lib.hid (HY8.out.later hB)
    have HP9 := Lib.hid (HP8.out.later hB)
    have HZ9 := Lib.hid (HZ8.out.later hB)
    have HQ9 := Lib.hid (HQ8.out.later hB)
    clear HB8 HU8 HV8 HM8 HS8 HT8 HY8 HP8 HZ8 HQ8
    clear hB CW
    go_wp2
    go_ret
    exact ⟨rfl, HX.out.trans (HB9.out.mono HX.out.size)⟩
  · go_wp2
    go_ret
    exact ⟨rfl, HX.out.trans (HB3.out.mono HX.out.size)⟩

/-! ### The row's step -/
theorem reads (os : Os) {H : Type} (enc : TypeId × Value → H) : (DataW.whole enc Tryz.prog ((Card.laidWorld os).forCall (fun _ _ => 0) ⟨#[], #[.agg #[.string ByteArray.empty, .string ByteArray.empty, .string ByteArray.empty, .int .i64 0, .string ByteArray.empty, .int .i64 0, .int .i64 0, .int .i64 0, .int .i64 0, .int .i64 0, .int .i64 0, .int .i64 0, .int .i64 0, .int .i64 0, .int .i64 0, .slice none 0 0, .string ByteArray.empty, .string ByteArray.empty, .string ByteArray.empty, .bool false, .bool false], .string ByteArray.empty, .agg #[.string ByteArray.empty, .string ByteArray.empty, .string ByteArray.empty, .int .i64 0, .string ByteArray.empty, .int .i64 0, .int .i64 0, .int .i64 0, .int .i64 0, .int .i64 0, .int .i64 0, .int .i64 0, .int .i64 0, .int .i64 0, .int .i64 0, .slice none 0 0, .string ByteArray.empty, .string ByteArray.empty, .string ByteArray.empty, .bool false, .bool false]], []⟩).memory Tryz.f3.params.toList Rows.joinTellsSpec.vars false (#[.agg #[.string ByteArray.empty, .string ByteArray.empty, .string ByteArray.empty, .int .i64 0, .string ByteArray.empty, .int .i64 0, .int .i64 0, .int .i64 0, .int .i64 0, .int .i64 0, .int .i64 0, .int .i64 0, .int .i64 0, .int .i64 0, .int .i64 0, .slice none 0 0, .string ByteArray.empty, .string ByteArray.empty, .string ByteArray.empty, .bool false, .bool false], .string ByteArray.empty, .agg #[.string ByteArray.empty, .string ByteArray.empty, .string ByteArray.empty, .int .i64 0, .string ByteArray.empty, .int .i64 0, .int .i64 0, .int .i64 0, .int .i64 0, .int .i64 0, .int .i64 0, .int .i64 0, .int .i64 0, .int .i64 0, .int .i64 0, .slice none 0 0, .string ByteArray.empty, .string ByteArray.empty, .string ByteArray.empty, .bool false, .bool false]] : Array Value).toList 8).map (fun x => (x.1, x.2.1)) = some ([.agg [.lit (.string []), .lit (.string []), .lit (.string []), .agg [.lit (.int .i64 0), .lit (.string []), .lit (.int .i64 0), .agg [.lit (.int .i64 0), .lit (.int .i64 0), .lit (.int .i64 0), .lit (.int .i64 0), .lit (.int .i64 0), .lit (.int .i64 0), .lit (.int .i64 0), .lit (.int .i64 0)]], .lit (.int .i64 0), .nil, .lit (.string []), .lit (.string []), .lit (.string []), .lit (.bool false), .lit (.bool false)], .lit (.string []), .agg [.lit (.string []), .lit (.string []), .lit (.string []), .agg [.lit (.int .i64 0), .lit (.string []), .lit (.int .i64 0), .agg [.lit (.int .i64 0), .lit (.int .i64 0), .lit (.int .i64 0), .lit (.int .i64 0), .lit (.int .i64 0), .lit (.int .i64 0), .lit (.int .i64 0), .lit (.int .i64 0)]], .lit (.int .i64 0), .nil, .lit (.string []), .lit (.string []), .lit (.string []), .lit (.bool false), .lit (.bool false)]], []) := by kernel_rfl
set_option maxRecDepth 100000 in
theorem lifted (os : Os) (started : os.Started) (H : Type) (enc : TypeId × Value → H) (F : Stop.Interp) :
    ReturnsInHanded {} Tryz.checked os 3 .any ((OpenSpec.ofChange Rows.joinTellsSpec).preRow enc Tryz.prog Tryz.f3 Rows.joinTellsRow.domain false Rows.joinTellsRow.laid) (((OpenSpec.ofChange Rows.joinTellsSpec).at F).post enc Tryz.prog Tryz.f3 false true false false) := by
  obtain ⟨⟨x1, x2, x3⟩, hx, hx1⟩ := Option.map_eq_some_iff.1 (reads os enc)
  simp only [Prod.mk.injEq] at hx1
  obtain ⟨rfl, rfl⟩ := hx1
  refine returnsInHanded_of_row (C := Tryz.checked) (s := OpenSpec.ofChange Rows.joinTellsSpec) own started (by kernel_rfl) Tryz.func3
    (witness_row_at (enc := enc) (C := Tryz.checked) false (Card.laidWorld os) #[.agg #[.string ByteArray.empty, .string ByteArray.empty, .string ByteArray.empty, .int .i64 0, .string ByteArray.empty, .int .i64 0, .int .i64 0, .int .i64 0, .int .i64 0, .int .i64 0, .int .i64 0, .int .i64 0, .int .i64 0, .int .i64 0, .int .i64 0, .slice none 0 0, .string ByteArray.empty, .string ByteArray.empty, .string ByteArray.empty, .bool false, .bool false], .string ByteArray.empty, .agg #[.string ByteArray.empty, .string ByteArray.empty, .string ByteArray.empty, .int .i64 0, .string ByteArray.empty, .int .i64 0, .int .i64 0, .int .i64 0, .int .i64 0, .int .i64 0, .int .i64 0, .int .i64 0, .int .i64 0, .int .i64 0, .int .i64 0, .slice none 0 0, .string ByteArray.empty, .string ByteArray.empty, .string ByteArray.empty, .bool false, .bool false]] rfl (by kernel_rfl) (by kernel_rfl) (by kernel_rfl)
      (OpenSpec.preRow_of_cond 8 hx (by kernel_rfl) (fun k hk => by cases hk) (by kernel_rfl) (Card.laid_met os _))) ?_
  intro W base args ds gs before hval0 hW _ _ _ hL hsh _
  obtain ⟨m, hmax⟩ := Card.maxLen_int hsh
  have hm : Six.At m W := ⟨hmax, Six.tab_of hL⟩
  have hval : ∀ (j : Nat) t v, Tryz.f3.params[j]? = some t → args[j]? = some v → Value.okWide Tryz.prog W .any base t v := hval0
  have hW' := hW
  obtain ⟨p, q, hA0, hV, rfl, hfz, hnd⟩ := hW
  have hA : DataW.TrodAll enc Tryz.prog W 0 (fun _ => true) true Tryz.f3.params.toList args.toList ds p := hA0
  rw [Tryz.params3] at hA hval
  obtain ⟨v0, vs0, d0, ds0, p0, q0, hargs0, rfl, rfl, t0, r0⟩ := trodAll_cons hA
  obtain ⟨v1, vs1, d1, ds1, p1, q1, hargs1, rfl, rfl, t1, r1⟩ := trodAll_cons r0
  obtain ⟨v2, vs2, d2, ds2, p2, q2, hargs2, rfl, rfl, t2, r2⟩ := trodAll_cons r1
  obtain ⟨rfl, rfl, rfl⟩ := trodAll_nil r2
  obtain rfl : args = #[v0, v1, v2] := by cases args; simp_all
  obtain ⟨rfl, rfl⟩ := trodVars_none hV
  have k0 := t0
  have lt0 : ∀ x ∈ p0, x.block < W.heap.size := by obtain ⟨m, hm⟩ := k0; exact DataW.trod_lt m _ _ _ hm
  obtain ⟨a0, pv0, l0, rfl, z0, w0⟩ := Url.open_url (hval 0 27 v0 rfl rfl) t0
  obtain ⟨a1, rfl, rfl, rfl, w1⟩ := open_string Tryz.underlying9 (hval 1 9 v1 rfl rfl) t1
  have k2 := t2
  have lt2 : ∀ x ∈ p2, x.block < W.heap.size := by obtain ⟨m, hm⟩ := k2; exact DataW.trod_lt m _ _ _ hm
  obtain ⟨a2, pv2, l2, rfl, z2, w2⟩ := Url.open_url (hval 2 27 v2 rfl rfl) t2
  clear hA0 hval0
  simp only [List.append_nil] at hW'
  refine (walk a0 pv0 l0 a1 a2 pv2 l2 w1 m W hm z0 w0 z2 w2).mono fun e W' ⟨he, bel⟩ => ?_
  subst he
  exact ⟨_, rfl, _, _, _, [], _, [], hW', trodAll_mk1 (shut_bool Tryz.underlying4 _), (trodAll_cons_mk (Below.trod laidOut (by kernel_rfl) (of_decide_eq_true (by kernel_rfl)) k0 bel lt0) (trodAll_cons_mk (shut_string Tryz.underlying9 w1) (trodAll_cons_mk (Below.trod laidOut (by kernel_rfl) (of_decide_eq_true (by kernel_rfl)) k2 bel lt2) trodAll_mk0))), rfl, bel.frame _, fun h => by cases h⟩

theorem said : Rows.joinTellsRow.holds Tryz.pinned (OpenSpec.ofChange Rows.joinTellsSpec) :=
  OpenClaim.holds_of_cond 3 Tryz.f3 rfl rfl rfl rfl rfl rfl rfl ⟨rfl, rfl, rfl, rfl, rfl⟩ rfl rfl rfl rfl rfl (by kernel_rfl) Tryz.func3 (by kernel_rfl)
    (of_decide_eq_true (by kernel_rfl)) (by unfold Func.isWrapper; first | (rw [if_pos (by decide +kernel)]; kernel_rfl) | (rw [if_neg (by decide +kernel)]; exact ⟨rfl, rfl⟩))
    (fun os started H enc _ F => by rw [OpenClaim.pre_eq_preRow]; exact lifted os started H enc F)

/-- No parameter wants a stand-in; the program's own looks are on. -/
theorem plain (f : FuncId) (fn : Func) (hf : Tryz.pinned.checked.prog.funcNamed Rows.joinTellsRow.func = some f) (hfn : Tryz.pinned.checked.prog.funcs[f]? = some fn) :
    true = Tryz.pinned.checked.prog.looks [] ∧ ∀ (j : Nat) t, fn.params[j]? = some t → Tryz.pinned.checked.prog.wantsStandIn t = false := by
  obtain rfl : f = 3 := Option.some.inj ((show Tryz.prog.funcNamed Rows.joinTellsRow.func = some 3 by kernel_rfl).symm.trans hf) |>.symm
  obtain rfl : fn = Tryz.f3 := (Option.some.inj (Tryz.func3.symm.trans hfn)).symm
  refine ⟨by kernel_rfl, fun j t ht => ?_⟩
  rw [Tryz.params3] at ht
  obtain rfl | rfl | rfl : t = 27 ∨ t = 9 ∨ t = 27 := by simpa using Array.mem_of_getElem? ht
  · exact (show Tryz.prog.wantsStandIn 27 = false by kernel_rfl)
  · exact (show Tryz.prog.wantsStandIn 9 = false by kernel_rfl)
  · exact (show Tryz.prog.wantsStandIn 27 = false by kernel_rfl)

/-- The statement: the card. -/
theorem proved : Rows.JoinTellsCardSaid :=
  Claim7.holds_tied_plain_at .later [] _ _ _ _ said (fun _ h => by cases h) (by kernel_rfl) (fun _ h => by cases h) joinTells_row_tie rfl ⟨rfl, rfl⟩ (by kernel_rfl) rfl plain (by kernel_rfl)
#print axioms proved
end Go.Proofs.YtkhjhiofgoampaaGreatDoor.joinTells
