/-
  WHAT IS PROVED: the card of JoinSelf: of any address of the web, any other one that may be, their parts few and short, and any text of at most 100 bytes: nothing beside the first is it, without its fragment; the other one's own text beside it is the other one; a number sign, and the text, beside it change its fragment alone.
  CONDITIONS: none but the card's own: the listed tables read as their texts lay them; the addresses and the text are any.
-/
import Derived.Test.YtkhjhiofgoampaaGreatDoorCards
import Derived.Test.YtkhjhiofgoampaaGreatDoorTie
import Derived.WalkKit
import Derived.ProofKit
import Derived.OpenShut
import Derived.ShutString
import Derived.ChangeOld
import Derived.Below
import Derived.Deep.RegionHeld
import Derived.Laws.AppendOwnNone
import Derived.Test.YtkhjhiofgoampaaGreatDoorJAwake
import Derived.Test.YtkhjhiofgoampaaGreatDoorLaid
import Derived.Test.YtkhjhiofgoampaaGreatDoorHOpen
namespace Go.Proofs.YtkhjhiofgoampaaGreatDoor.joinSelf
open Go.ChangeShapes Go.WideShapes Go.ChangeAt Go.RowKit
open Go.ChangeMaps (open_string shut_string)
open Go.Shelf
open Go.Proofs.YtkhjhiofgoampaaGreatDoor.Url
open Go.Proofs.YtkhjhiofgoampaaGreatDoor.Host (H)
open Go.Proofs.YtkhjhiofgoampaaGreatDoor.Path (Strs)
set_option linter.unusedSimpArgs false
set_option linter.unusedVariables false

theorem own : ownKnob Tryz.prog.godebug = none := by kernel_rfl
theorem laidOut : laidOutB Tryz.prog = true := by kernel_rfl

open Go.Proofs.YtkhjhiofgoampaaGreatDoor.Show
open Go.Proofs.YtkhjhiofgoampaaGreatDoor.Join
theorem few_path {u : U} (h : fewU u = true) : u.path.length ≤ 60 ∧ ∀ t ∈ u.path, t.length ≤ 300 := by
  unfold fewU at h
  rw [Bool.and_eq_true] at h
  exact (Path.few_iff _).1 h.1
theorem few_sch {u : U} (h : fewU u = true) : u.sch.length ≤ 300 := by
  unfold fewU at h
  simp only [Bool.and_eq_true, le3_iff] at h
  exact h.2.1
theorem few_show2 (u : U) (h8 : u.h.p.length = 8) (h : fewU u = true) : (showU u).length ≤ 20060 := by
  have hf := few_fit u h8 h
  unfold fewU at h
  simp only [Bool.and_eq_true, le3_iff] at h
  obtain ⟨h0, h1, h2, h3, h4, h5, h6, h7⟩ := h
  obtain ⟨p1, p2⟩ := (Path.few_iff _).1 h0
  refine show_le_of fun hm => ?_
  have hp := show_le 300 u.path p2
  have : u.path.length * (300 + 1) ≤ 60 * 301 := Nat.mul_le_mul_right _ p1
  have := text_le u hf hm 300 18060 h1 h2 h3 h5 h6 h7 (by omega)
  omega
set_option maxRecDepth 100000
set_option maxHeartbeats 16000000 in
theorem walk (a0 : U) (v0 : Value) (l0 : a0.h.p.length = 8) (a1 : U) (v1 : Value) (l1 : a1.h.p.length = 8) (a2 : ByteArray) (w2 : a2.size ≤ maxLen) (m : Int) (w : World) (hm : Six.At m w) (s0 : Path.Strs w v0 a0.path) (w0 : (Lit.int .i64 a0.port).wf = true) (s1 : Path.Strs w v1 a1.path) (w1 : (Lit.int .i64 a1.port).wf = true) :
    Calls Tryz.prog 5 #[.agg (cU a0 v0), .agg (cU a1 v1), .string a2] w fun e w' => e = .returned (.bool true) ∧ Below w.heap.size w w' := by
  have e1 : (w.alloc (.cells (cU a0 v0) 27)).heap.size = w.heap.size + 1 := Array.size_push _
  have b1 : Below w.heap.size w (w.alloc (.cells (cU a0 v0) 27)) := (Below.refl w.heap.size w).alloc (Nat.le_refl _) _
  have b2 : Below w.heap.size w ((w.alloc (.cells (cU a0 v0) 27)).alloc (.cells (cU a1 v1) 27)) := b1.alloc (by omega) _
  have HX := Lib.hid b2
  have HU0 := Lib.hid ((UrlAt.new w a0 v0).past (.cells (cU a1 v1) 27))
  have HV0 := Lib.hid (show UrlAt ((w.alloc (.cells (cU a0 v0) 27)).alloc (.cells (cU a1 v1) 27)) (w.heap.size + 1) a1 v1 from by rw [← e1]; exact UrlAt.new (w.alloc (.cells (cU a0 v0) 27)) a1 v1)
  have HM0 := Lib.hid (hm.later HX.out)
  have HS0 := Lib.hid (s0.later HX.out)
  have HT0 := Lib.hid (s1.later HX.out)
  clear hm e1 b1 b2 s0 s1
  go_enter Tryz.func5, Tryz.ntmps5
  go_wp2_with fail
  generalize ((w.alloc (.cells (cU a0 v0) 27)).alloc (.cells (cU a1 v1) 27)) = X0 at HX HM0 HU0 HS0 HV0 HT0 ⊢
  refine (Join.awake_calls m X0 HM0.out).mono ?_
  rintro e X1 ⟨rfl, hB⟩
  have HB1 := Lib.hid (hB)
  have HU1 := Lib.hid (HU0.out.later hB)
  have HV1 := Lib.hid (HV0.out.later hB)
  have HM1 := Lib.hid (HM0.out.later hB)
  have HS1 := Lib.hid (HS0.out.later hB)
  have HT1 := Lib.hid (HT0.out.later hB)
  clear HU0 HV0 HM0 HS0 HT0
  clear hB
  obtain ⟨f0, hf0⟩ : ∃ b, fewU a0 = b := ⟨_, rfl⟩
  have hu := HU1.out
  go_wp2_with ((with_reducible refine wp_load27 (o := ⟨some 17, .load 27 (.tmp 3), _, _, _, _⟩) ?_ (.tmp 3) ?_ w.heap.size ?_ a0 v0 l0 hu ?_); (· rfl); (· rfl); (· rfl); simp only [Act.put, List.setIfInBounds_toArray, List.set_cons_zero, List.set_cons_succ])
  refine (few_any a0 v0 l0 f0 hf0 _ HS1.out).mono ?_
  rintro e X2 ⟨rfl, hB⟩
  have HB2 := Lib.hid (below_trans HB1.out hB)
  have HU2 := Lib.hid (HU1.out.later hB)
  have HV2 := Lib.hid (HV1.out.later hB)
  have HM2 := Lib.hid (HM1.out.later hB)
  have HS2 := Lib.hid (HS1.out.later hB)
  have HT2 := Lib.hid (HT1.out.later hB)
  clear HB1 HU1 HV1 HM1 HS1 HT1
  clear hB hu
  obtain ⟨f1, hf1⟩ : ∃ b, fewU a1 = b := ⟨_, rfl⟩
  have hu := HV2.out
  go_wp2_with ((with_reducible refine wp_load27 (o := ⟨some 19, .load 27 (.tmp 4), _, _, _, _⟩) ?_ (.tmp 4) ?_ (w.heap.size + 1) ?_ a1 v1 l1 hu ?_); (· rfl); (· rfl); (· rfl); simp only [Act.put, List.setIfInBounds_toArray, List.set_cons_zero, List.set_cons_succ])
  refine (few_any a1 v1 l1 f1 hf1 _ HT2.out).mono ?_
  rintro e X3 ⟨rfl, hB⟩
  have HB3 := Lib.hid (below_trans HB2.out hB)
  have HU3 := Lib.hid (HU2.out.later hB)
  have HV3 := Lib.hid (HV2.out.later hB)
  have HM3 := Lib.hid (HM2.out.later hB)
  have HS3 := Lib.hid (HS2.out.later hB)
  have HT3 := Lib.hid (HT2.out.later hB)
  clear HB2 HU2 HV2 HM2 HS2 HT2
  clear hB hu
  cases f0
  · go_wp2
    go_ret
    exact ⟨rfl, HX.out.trans (HB3.out.mono HX.out.size)⟩
  cases f1
  · go_wp2
    go_ret
    exact ⟨rfl, HX.out.trans (HB3.out.mono HX.out.size)⟩
  obtain ⟨big, hbig⟩ : ∃ b, decide (100 < a2.size) = b := ⟨_, rfl⟩
  have hbig' : decide ((100 : Int) < (a2.size : Int)) = big := by rw [← hbig]; exact decide_eq_decide.2 (by omega)
  cases big
  · have hs : a2.size ≤ 100 := by have := of_decide_eq_false hbig; omega
    have HBg := Lib.hid hbig'
    have HBh := Lib.hid hbig
    have F0 := few_fit a0 l0 hf0
    have F1 := few_fit a1 l1 hf1
    have P0 := few_path hf0
    obtain ⟨b, hb⟩ : ∃ b, mayU a0 = b := ⟨_, rfl⟩
    obtain ⟨c, hc⟩ : ∃ b, mayU a1 = b := ⟨_, rfl⟩
    obtain ⟨z, hz⟩ : ∃ z, webI a0.sch = z := ⟨_, rfl⟩
    obtain ⟨N, hN⟩ : ∃ n, tb a0.sch = n := ⟨_, rfl⟩
    have hsc : a0.sch.length ≤ 1000 := by have := few_sch hf0; omega
    have CA := Lib.hid (fun x hx hy => may_any a0 v0 F0 b hb m x hx hy)
    have CC := Lib.hid (fun x hx hy => may_any a1 v1 F1 c hc m x hx hy)
    have CZ := Lib.hid (fun x => web_any N z (by rw [list_tb hN]; exact hz) x)
    obtain ⟨D, hD⟩ : ∃ d, (⟨#[35]⟩ : ByteArray) ++ a2 = d := ⟨_, rfl⟩
    have hDl : D.data.toList = 35 :: a2.data.toList := by rw [← hD]; simp
    have hD1 : D.size ≤ 21000 := by rw [← size_list, hDl, List.length_cons, size_list]; omega
    obtain ⟨S, hS⟩ : ∃ s, tb (showU a1) = s := ⟨_, rfl⟩
    have hS1 : S.size ≤ 21000 := by rw [size_tb hS]; have := few_show2 a1 l1 hf1; omega
    have HW0 := Lib.hid (show b = true → z ≠ 0 → ∃ FF : T, FF.length ≤ 1000000 ∧ okR a0 D.data.toList = true ∧ resR a0 D.data.toList = { a0 with frg := FF, hf := true } from fun h k => by
      obtain ⟨f', hl, h1, h2⟩ := res_frag (hb.trans h) (fun e => k (hz.symm.trans e)) a2.data.toList
      rw [← hDl] at h1 h2
      rw [size_list] at hl
      refine ⟨_, ?_, h1, h2⟩
      have e1 := enc_le 1 f' 100 (by omega)
      omega)
    have HT0 := Lib.hid (show b = true → z ≠ 0 → okR a0 [] = true ∧ resR a0 [] = bareU a0 from fun h k => res_nil (hb.trans h) (fun e => k (hz.symm.trans e)))
    have HW1 := Lib.hid (show b = true → c = true → okR a0 S.data.toList = true ∧ resR a0 S.data.toList = a1 from fun h k => by rw [list_tb hS]; exact res_show (hb.trans h) (hc.trans k) l1)
    have HRs := Lib.hid (fun (x : U) h1 h2 y hm hs => resolve_any a0 v0 F0 (by have := P0.1; omega) hsc D hD1 true h1 x h2 m y hm hs)
    have HRt := Lib.hid (fun (x : U) h1 h2 y hm hs => resolve_any a0 v0 F0 (by have := P0.1; omega) hsc ⟨#[]⟩ (by decide) true h1 x h2 m y hm hs)
    have HRu := Lib.hid (fun (x : U) h1 h2 y hm hs => resolve_any a0 v0 F0 (by have := P0.1; omega) hsc S hS1 true h1 x h2 m y hm hs)
    have CSh := Lib.hid (fun y hy hs => show_any a1 v1 F1 S hS m y hy hs)
    have CB := Lib.hid (fun y hs => Show.bare_any a0 v0 F0 y hs)
    have HF0 := Lib.hid F0
    have HDD := Lib.hid hD
    have HNN := Lib.hid hN
    have HSz := Lib.hid hs
    clear hbig hbig' hs hf0 hf1 F0 F1 P0 hb hc hz hN hsc hD hDl hD1 hS hS1
    have hu := HU3.out
    have hbg := HBg.out
    have hbh := HBh.out
    go_wp2_with ((with_reducible refine wp_load27 (o := ⟨some 37, .load 27 (.tmp 3), _, _, _, _⟩) ?_ (.tmp 3) ?_ w.heap.size ?_ a0 v0 l0 hu ?_); (· rfl); (· rfl); (· rfl); simp only [Act.put, List.setIfInBounds_toArray, List.set_cons_zero, List.set_cons_succ])
    refine (CA.out _ HM3.out HS3.out).mono ?_
    rintro e X4 ⟨rfl, hB⟩
    have HB4 := Lib.hid (below_trans HB3.out hB)
    have HU4 := Lib.hid (HU3.out.later hB)
    have HV4 := Lib.hid (HV3.out.later hB)
    have HM4 := Lib.hid (HM3.out.later hB)
    have HS4 := Lib.hid (HS3.out.later hB)
    have HT4 := Lib.hid (HT3.out.later hB)
    clear HB3 HU3 HV3 HM3 HS3 HT3
    clear hB hu CA
    cases b
    · go_wp2
      go_ret
      exact ⟨rfl, HX.out.trans (HB4.out.mono HX.out.size)⟩
    have hv := HV4.out
    go_wp2_with ((with_reducible refine wp_load27 (o := ⟨some 42, .load 27 (.tmp 4), _, _, _, _⟩) ?_ (.tmp 4) ?_ (w.heap.size + 1) ?_ a1 v1 l1 hv ?_); (· rfl); (· rfl); (· rfl); simp only [Act.put, List.setIfInBounds_toArray, List.set_cons_zero, List.set_cons_succ])
    refine (CC.out _ HM4.out HT4.out).mono ?_
    rintro e X5 ⟨rfl, hB⟩
    have HB5 := Lib.hid (below_trans HB4.out hB)
    have HU5 := Lib.hid (HU4.out.later hB)
    have HV5 := Lib.hid (HV4.out.later hB)
    have HM5 := Lib.hid (HM4.out.later hB)
    have HS5 := Lib.hid (HS4.out.later hB)
    have HT5 := Lib.hid (HT4.out.later hB)
    clear HB4 HU4 HV4 HM4 HS4 HT4
    clear hB hv CC
    cases c
    · go_wp2
      go_ret
      exact ⟨rfl, HX.out.trans (HB5.out.mono HX.out.size)⟩
    have c0 := HU5.out.cell 0
    rw [(cU_at a0 v0 l0).1, HNN.out] at c0
    go_wp2_with fail
    refine (CZ.out _).mono ?_
    rintro e X ⟨rfl, rfl⟩
    clear CZ c0 hbg hbh HBg HBh
    by_cases h0 : z = 0
    · subst h0
      go_wp2
      go_ret
      exact ⟨rfl, HX.out.trans (HB5.out.mono HX.out.size)⟩
    have q0 : (z == 0) = false := beq_eq_false_iff_ne.2 h0
    obtain ⟨FF, hFF, hr1, hr2⟩ := HW0.out (by first | rfl | trivial) h0
    obtain ⟨ht1, ht2⟩ := HT0.out (by first | rfl | trivial) h0
    obtain ⟨hu1, hu2⟩ := HW1.out (by first | rfl | trivial) (by first | rfl | trivial)
    obtain ⟨Z, hZ⟩ : ∃ y, ({ a0 with frg := FF, hf := true } : U) = y := ⟨_, rfl⟩
    rw [hZ] at hr2
    have CR := Lib.hid (fun y hm hs => HRs.out Z hr1 hr2 y hm hs)
    have CT := Lib.hid (fun y hm hs => HRt.out (bareU a0) ht1 ht2 y hm hs)
    have CU := Lib.hid (fun y hm hs => HRu.out a1 hu1 hu2 y hm hs)
    have F0 := HF0.out
    have hFZ : Fit Z := by rw [← hZ]; exact ⟨F0.h8, F0.hs, F0.pn, F0.pt, F0.sch, F0.usr, F0.pas, F0.opq, F0.qry, hFF⟩
    have hbz : bareU Z = bareU a0 := by rw [← hZ]; rfl
    have CV := Lib.hid (fun rv y hs => show Calls Tryz.prog 23 #[.agg (cU Z rv)] y (Got y (bareU a0)) from by rw [← hbz]; exact Show.bare_any Z rv hFZ y hs)
    have CE := Lib.hid (fun p q y hp hq => same_any (bareU a0) (bareU a0) p q l0 l0 true ((same_iff _ _).2 rfl) y hp hq)
    have CG := Lib.hid (fun p q y hp hq => same_any a1 a1 p q l1 l1 true ((same_iff _ _).2 rfl) y hp hq)
    have LZ := Lib.hid (show Z.h.p.length = 8 from hFZ.h8)
    have LB := Lib.hid (show (bareU a0).h.p.length = 8 from l0)
    have HZf := Lib.hid (show Z.hf = true by rw [← hZ])
    clear HW0 HT0 HW1 HRs HRt HRu hr1 hr2 ht1 ht2 hu1 hu2 hZ hFF HF0 F0 hFZ hbz
    have hu := HU5.out
    go_wp2_with ((with_reducible refine wp_load27 (o := ⟨some 54, .load 27 (.tmp 3), _, _, _, _⟩) ?_ (.tmp 3) ?_ w.heap.size ?_ a0 v0 l0 hu ?_); (· rfl); (· rfl); (· rfl); simp only [Act.put, List.setIfInBounds_toArray, List.set_cons_zero, List.set_cons_succ])
    refine (CT.out _ HM5.out HS5.out).mono ?_
    rintro e X6 ⟨pv, rfl, hst, hn, hB⟩
    have lb := LB.out
    clear hu CT
    have hone := strs_one hst
    have hnew := new_url X6
    have hB2 := below_trans hB (below_url X6 (bareU a0) pv)
    have HB6 := Lib.hid (below_trans HB5.out hB2)
    have HU6 := Lib.hid (HU5.out.later hB2)
    have HV6 := Lib.hid (HV5.out.later hB2)
    have HM6 := Lib.hid (HM5.out.later hB2)
    have HS6 := Lib.hid (HS5.out.later hB2)
    have HT6 := Lib.hid (HT5.out.later hB2)
    have HP6 := Lib.hid (hst.later (below_url X6 (bareU a0) pv))
    have HY6 := Lib.hid (hnew.row (bareU a0) pv)
    clear HB5 HU5 HV5 HM5 HS5 HT5 hst hn hB hB2
    go_upto_region 7 with ((with_reducible refine wp_store27 (o := ⟨none, .store 27 (.tmp 10) (.tmp 56), _, _, _, _⟩) ?_ (.tmp 10) (.tmp 56) ?_ X6.heap.size ?_ (bareU a0) pv ?_ lb hone none1 (.slice none 0 0) rfl hnew ?_); (· rfl); (· rfl); (· rfl); (· rfl); simp only [Act.put, List.setIfInBounds_toArray, List.set_cons_zero, List.set_cons_succ])
    generalize (X6.alloc (.cells #[.string ⟨#[]⟩, .string ⟨#[]⟩, .string ⟨#[]⟩, .int .i64 0, .string ⟨#[]⟩, .int .i64 0, .int .i64 0, .int .i64 0, .int .i64 0, .int .i64 0, .int .i64 0, .int .i64 0, .int .i64 0, .int .i64 0, .int .i64 0, .slice none 0 0, .string ⟨#[]⟩, .string ⟨#[]⟩, .string ⟨#[]⟩, .bool false, .bool false] 27)).setRow X6.heap.size (cU (bareU a0) pv) = V6 at HB6 HU6 HV6 HM6 HS6 HT6 HP6 HY6 ⊢
    generalize X6.heap.size = g1 at HY6 ⊢
    clear hnew hone
    go_cut [12, 13] from 58 to 64 (fun v12 v13 wx => ∃ (g : Nat) (qv : Value), v12 = .pointer (some ⟨g, 0, none⟩) ∧ v13 = .bool true ∧ Hid (UrlAt wx g a1 qv) ∧ Hid (Path.Strs wx qv a1.path) ∧ Hid (Below V6.heap.size V6 wx))
    case first =>
      have hc : Below V6.heap.size V6 V6.drew := (Below.refl _ _).drew
      refine wp_region_held_drew (S := fun v => UrlAt v w.heap.size a0 v0 ∧ UrlAt v (w.heap.size + 1) a1 v1) (by kernel_rfl) ⟨HU6.out.later hc, HV6.out.later hc⟩ (fun hS => ?_)
      refine wpAnyH_take (i := 0) (oi := ⟨some 59, .load 27 (.tmp 3), _, _, _, _⟩) (v := .agg (cU a0 v0)) rfl (by kernel_rfl) (by kernel_rfl) (by kernel_rfl) (fun _ _ _ h => h) (Or.inl ⟨by rfl, ?_⟩) (by assumption) ?_
      · (exact fun v hv => run_load_of 27 (.tmp 3) ⟨w.heap.size, 0, none⟩ rfl (.agg (cU a0 v0)) (hv.1.load l0))
      simp only [Act.put, List.setIfInBounds_toArray, List.set_cons_zero, List.set_cons_succ]
      refine wpAnyH_take (i := 1) (oi := ⟨some 60, .load 27 (.tmp 4), _, _, _, _⟩) (v := .agg (cU a1 v1)) rfl (by kernel_rfl) (by kernel_rfl) (by kernel_rfl) (fun _ _ _ h => h) (Or.inl ⟨by rfl, ?_⟩) (by assumption) ?_
      · (exact fun v hv => run_load_of 27 (.tmp 4) ⟨(w.heap.size + 1), 0, none⟩ rfl (.agg (cU a1 v1)) (hv.2.load l1))
      simp only [Act.put, List.setIfInBounds_toArray, List.set_cons_zero, List.set_cons_succ]
      refine wpAnyH_ready (rs := [2, 7]) (by kernel_rfl) (by simp) ?_
      refine AllReadyH.cons (o := ⟨some 61, .call ⟨.value (.func 22), #[.tmp 60], _⟩, _, _, _, _⟩) rfl (fun K hK => ?_) (AllReadyH.cons (o := ⟨some 12, .alloc 27, _, _, _, _⟩) rfl (fun K hK => ?_) AllReadyH.nil)
      · go_simp
        go_at_call 22
        refine (CSh.out _ (HM6.out.later hc) (HT6.out.later hc)).mono ?_
        rintro e y1 ⟨rfl, hB⟩
        have hc := below_trans hc hB
        refine hK.out _ _ ⟨HU6.out.later hc, HV6.out.later hc⟩ (fun hS => ?_)
        clear hB
        refine wpAnyH_ready (rs := [3, 7]) (by kernel_rfl) (by simp) ?_
        refine AllReadyH.cons (o := ⟨some 62, .call ⟨.value (.func 11), #[.tmp 59, .tmp 61], _⟩, _, _, _, _⟩) rfl (fun K hK => ?_) (AllReadyH.cons (o := ⟨some 12, .alloc 27, _, _, _, _⟩) rfl (fun K hK => ?_) AllReadyH.nil)
        · go_simp
          go_at_call 11
          refine (CU.out _ (HM6.out.later hc) (HS6.out.later hc)).mono ?_
          rintro e y2 ⟨qv, rfl, hst, hn, hB⟩
          have hone := strs_one hst
          have hc := below_trans hc hB
          refine hK.out _ _ ⟨HU6.out.later hc, HV6.out.later hc⟩ (fun hS => ?_)
          clear hB
          refine wpAnyH_take (i := 4) (oi := ⟨some 58, .move (.tmp 62), _, _, _, _⟩) (v := .tuple #[.agg (cU a1 qv), .bool true]) rfl (by kernel_rfl) (by kernel_rfl) (by kernel_rfl) (fun _ _ _ h => h) (Or.inl ⟨by rfl, ?_⟩) (by assumption) ?_
          · (intro v hv; go_simp)
          simp only [Act.put, List.setIfInBounds_toArray, List.set_cons_zero, List.set_cons_succ]
          refine wpAnyH_take (i := 5) (oi := ⟨some 63, .extract (.tmp 58) 0, _, _, _, _⟩) (v := .agg (cU a1 qv)) rfl (by kernel_rfl) (by kernel_rfl) (by kernel_rfl) (fun _ _ _ h => h) (Or.inl ⟨by rfl, ?_⟩) (by assumption) ?_
          · (intro v hv; go_simp)
          simp only [Act.put, List.setIfInBounds_toArray, List.set_cons_zero, List.set_cons_succ]
          refine wpAnyH_take (i := 6) (oi := ⟨some 64, .extract (.tmp 58) 1, _, _, _, _⟩) (v := .bool true) rfl (by kernel_rfl) (by kernel_rfl) (by kernel_rfl) (fun _ _ _ h => h) (Or.inl ⟨by rfl, ?_⟩) (by assumption) ?_
          · (intro v hv; go_simp)
          simp only [Act.put, List.setIfInBounds_toArray, List.set_cons_zero, List.set_cons_succ]
          refine wpAnyH_ready (rs := [7]) (by kernel_rfl) (by simp) ?_
          refine AllReadyH.cons (o := ⟨some 12, .alloc 27, _, _, _, _⟩) rfl (fun K hK => ?_) AllReadyH.nil
          go_simp
          have hsz := hc.size
          have hap := apart_old hst (Nat.le_refl y2.heap.size)
          have hst := hst.later ((Below.refl y2.heap.size y2).alloc (Nat.le_refl _) (.cells #[.string ⟨#[]⟩, .string ⟨#[]⟩, .string ⟨#[]⟩, .int .i64 0, .string ⟨#[]⟩, .int .i64 0, .int .i64 0, .int .i64 0, .int .i64 0, .int .i64 0, .int .i64 0, .int .i64 0, .int .i64 0, .int .i64 0, .int .i64 0, .slice none 0 0, .string ⟨#[]⟩, .string ⟨#[]⟩, .string ⟨#[]⟩, .bool false, .bool false] 27))
          have hc := hc.alloc hc.size (.cells #[.string ⟨#[]⟩, .string ⟨#[]⟩, .string ⟨#[]⟩, .int .i64 0, .string ⟨#[]⟩, .int .i64 0, .int .i64 0, .int .i64 0, .int .i64 0, .int .i64 0, .int .i64 0, .int .i64 0, .int .i64 0, .int .i64 0, .int .i64 0, .slice none 0 0, .string ⟨#[]⟩, .string ⟨#[]⟩, .string ⟨#[]⟩, .bool false, .bool false] 27)
          have hnew := new_url y2
          refine hK.out _ _ ⟨HU6.out.later hc, HV6.out.later hc⟩ (fun hS => ?_)
          refine wpAnyH_ready (rs := [8]) (by kernel_rfl) (by simp) ?_
          refine AllReadyH.cons (o := ⟨none, .store 27 (.tmp 12) (.tmp 63), _, _, _, _⟩) rfl (fun K hK => ?_) AllReadyH.nil
          rw [if_pos (by rfl)]
          refine wp_store_row 27 (.tmp 12) (.tmp 63) rfl y2.heap.size (cU a1 qv) rfl rfl 27 (cU none1 (.slice none 0 0)) hnew (by rw [cU_size _ _ l1]; exact size27) (by first | exact (cU_size none1 (.slice none 0 0) rfl).trans (cU_size a1 qv l1).symm | exact (cU_size a1 qv l1).trans (cU_size none1 (.slice none 0 0) rfl).symm) (cU_one _ _ hone) ?_
          have hr := hnew
          have hc0 := hc
          have hc := below_row hc hsz (cU a1 qv)
          refine hK.out _ _ ⟨HU6.out.later hc, HV6.out.later hc⟩ (fun hS => ?_)
          refine wpAnyH_take (i := 9) (oi := ⟨some 13, .assign (.tmp 64), _, _, _, _⟩) (v := .bool true) rfl (by kernel_rfl) (by kernel_rfl) (by kernel_rfl) (fun _ _ _ h => h) (Or.inl ⟨by rfl, ?_⟩) (by assumption) ?_
          · (intro v hv; go_simp)
          simp only [Act.put, List.setIfInBounds_toArray, List.set_cons_zero, List.set_cons_succ]
          refine wpAnyH_done (by kernel_rfl) ?_ _
          clear hS
          go_wp2_with fail
          go_meet
          exact ⟨_, qv, rfl, rfl, Lib.hid (hr.row a1 qv), Lib.hid (strs_apart hst hap (fun k hk => Url.setRow_other _ _ _ (Ne.symm hk))), Lib.hid hc⟩
        · go_simp
          have hsz := hc.size
          have hc := hc.alloc hc.size (.cells #[.string ⟨#[]⟩, .string ⟨#[]⟩, .string ⟨#[]⟩, .int .i64 0, .string ⟨#[]⟩, .int .i64 0, .int .i64 0, .int .i64 0, .int .i64 0, .int .i64 0, .int .i64 0, .int .i64 0, .int .i64 0, .int .i64 0, .int .i64 0, .slice none 0 0, .string ⟨#[]⟩, .string ⟨#[]⟩, .string ⟨#[]⟩, .bool false, .bool false] 27)
          have hnew := new_url y1
          refine hK.out _ _ ⟨HU6.out.later hc, HV6.out.later hc⟩ (fun hS => ?_)
          refine wpAnyH_ready (rs := [3]) (by kernel_rfl) (by simp) ?_
          refine AllReadyH.cons (o := ⟨some 62, .call ⟨.value (.func 11), #[.tmp 59, .tmp 61], _⟩, _, _, _, _⟩) rfl (fun K hK => ?_) AllReadyH.nil
          go_simp
          go_at_call 11
          refine (CU.out _ (HM6.out.later hc) (HS6.out.later hc)).mono ?_
          rintro e y2 ⟨qv, rfl, hst, hn, hB⟩
          have hone := strs_one hst
          have hc := below_trans hc hB
          have hnew := hnew.later hB
          have hap := apart_new (l := a1.path) (hn.mono (Nat.le_of_eq (Array.size_push _).symm))
          refine hK.out _ _ ⟨HU6.out.later hc, HV6.out.later hc⟩ (fun hS => ?_)
          clear hB
          refine wpAnyH_take (i := 4) (oi := ⟨some 58, .move (.tmp 62), _, _, _, _⟩) (v := .tuple #[.agg (cU a1 qv), .bool true]) rfl (by kernel_rfl) (by kernel_rfl) (by kernel_rfl) (fun _ _ _ h => h) (Or.inl ⟨by rfl, ?_⟩) (by assumption) ?_
          · (intro v hv; go_simp)
          simp only [Act.put, List.setIfInBounds_toArray, List.set_cons_zero, List.set_cons_succ]
          refine wpAnyH_take (i := 5) (oi := ⟨some 63, .extract (.tmp 58) 0, _, _, _, _⟩) (v := .agg (cU a1 qv)) rfl (by kernel_rfl) (by kernel_rfl) (by kernel_rfl) (fun _ _ _ h => h) (Or.inl ⟨by rfl, ?_⟩) (by assumption) ?_
          · (intro v hv; go_simp)
          simp only [Act.put, List.setIfInBounds_toArray, List.set_cons_zero, List.set_cons_succ]
          refine wpAnyH_take (i := 6) (oi := ⟨some 64, .extract (.tmp 58) 1, _, _, _, _⟩) (v := .bool true) rfl (by kernel_rfl) (by kernel_rfl) (by kernel_rfl) (fun _ _ _ h => h) (Or.inl ⟨by rfl, ?_⟩) (by assumption) ?_
          · (intro v hv; go_simp)
          simp only [Act.put, List.setIfInBounds_toArray, List.set_cons_zero, List.set_cons_succ]
          refine wpAnyH_ready (rs := [8]) (by kernel_rfl) (by simp) ?_
          refine AllReadyH.cons (o := ⟨none, .store 27 (.tmp 12) (.tmp 63), _, _, _, _⟩) rfl (fun K hK => ?_) AllReadyH.nil
          rw [if_pos (by rfl)]
          refine wp_store_row 27 (.tmp 12) (.tmp 63) rfl y1.heap.size (cU a1 qv) rfl rfl 27 (cU none1 (.slice none 0 0)) hnew (by rw [cU_size _ _ l1]; exact size27) (by first | exact (cU_size none1 (.slice none 0 0) rfl).trans (cU_size a1 qv l1).symm | exact (cU_size a1 qv l1).trans (cU_size none1 (.slice none 0 0) rfl).symm) (cU_one _ _ hone) ?_
          have hr := hnew
          have hc0 := hc
          have hc := below_row hc hsz (cU a1 qv)
          refine hK.out _ _ ⟨HU6.out.later hc, HV6.out.later hc⟩ (fun hS => ?_)
          refine wpAnyH_take (i := 9) (oi := ⟨some 13, .assign (.tmp 64), _, _, _, _⟩) (v := .bool true) rfl (by kernel_rfl) (by kernel_rfl) (by kernel_rfl) (fun _ _ _ h => h) (Or.inl ⟨by rfl, ?_⟩) (by assumption) ?_
          · (intro v hv; go_simp)
          simp only [Act.put, List.setIfInBounds_toArray, List.set_cons_zero, List.set_cons_succ]
          refine wpAnyH_done (by kernel_rfl) ?_ _
          clear hS
          go_wp2_with fail
          go_meet
          exact ⟨_, qv, rfl, rfl, Lib.hid (hr.row a1 qv), Lib.hid (strs_apart hst hap (fun k hk => Url.setRow_other _ _ _ (Ne.symm hk))), Lib.hid hc⟩
      · go_simp
        have hsz : V6.heap.size ≤ V6.heap.size := Nat.le_refl _
        have hs1 : (V6.alloc (.cells #[.string ⟨#[]⟩, .string ⟨#[]⟩, .string ⟨#[]⟩, .int .i64 0, .string ⟨#[]⟩, .int .i64 0, .int .i64 0, .int .i64 0, .int .i64 0, .int .i64 0, .int .i64 0, .int .i64 0, .int .i64 0, .int .i64 0, .int .i64 0, .slice none 0 0, .string ⟨#[]⟩, .string ⟨#[]⟩, .string ⟨#[]⟩, .bool false, .bool false] 27)).drew.heap.size = V6.heap.size + 1 := Array.size_push _
        have hc : Below V6.heap.size V6 (V6.alloc (.cells #[.string ⟨#[]⟩, .string ⟨#[]⟩, .string ⟨#[]⟩, .int .i64 0, .string ⟨#[]⟩, .int .i64 0, .int .i64 0, .int .i64 0, .int .i64 0, .int .i64 0, .int .i64 0, .int .i64 0, .int .i64 0, .int .i64 0, .int .i64 0, .slice none 0 0, .string ⟨#[]⟩, .string ⟨#[]⟩, .string ⟨#[]⟩, .bool false, .bool false] 27)).drew := ((Below.refl _ V6).alloc (Nat.le_refl _) _).drew
        have hnew : UrlAt (V6.alloc (.cells #[.string ⟨#[]⟩, .string ⟨#[]⟩, .string ⟨#[]⟩, .int .i64 0, .string ⟨#[]⟩, .int .i64 0, .int .i64 0, .int .i64 0, .int .i64 0, .int .i64 0, .int .i64 0, .int .i64 0, .int .i64 0, .int .i64 0, .int .i64 0, .slice none 0 0, .string ⟨#[]⟩, .string ⟨#[]⟩, .string ⟨#[]⟩, .bool false, .bool false] 27)).drew V6.heap.size none1 (.slice none 0 0) := new_url V6
        have hg : V6.heap.size + 1 ≤ (V6.alloc (.cells #[.string ⟨#[]⟩, .string ⟨#[]⟩, .string ⟨#[]⟩, .int .i64 0, .string ⟨#[]⟩, .int .i64 0, .int .i64 0, .int .i64 0, .int .i64 0, .int .i64 0, .int .i64 0, .int .i64 0, .int .i64 0, .int .i64 0, .int .i64 0, .slice none 0 0, .string ⟨#[]⟩, .string ⟨#[]⟩, .string ⟨#[]⟩, .bool false, .bool false] 27)).drew.heap.size := Nat.le_of_eq hs1.symm
        refine hK.out _ _ ⟨HU6.out.later hc, HV6.out.later hc⟩ (fun hS => ?_)
        refine wpAnyH_ready (rs := [2]) (by kernel_rfl) (by simp) ?_
        refine AllReadyH.cons (o := ⟨some 61, .call ⟨.value (.func 22), #[.tmp 60], _⟩, _, _, _, _⟩) rfl (fun K hK => ?_) AllReadyH.nil
        go_simp
        go_at_call 22
        refine (CSh.out _ (HM6.out.later hc) (HT6.out.later hc)).mono ?_
        rintro e y1 ⟨rfl, hB⟩
        have hc := below_trans hc hB
        have hnew := hnew.later hB
        have hg := Nat.le_trans hg hB.size
        refine hK.out _ _ ⟨HU6.out.later hc, HV6.out.later hc⟩ (fun hS => ?_)
        clear hB
        refine wpAnyH_ready (rs := [3]) (by kernel_rfl) (by simp) ?_
        refine AllReadyH.cons (o := ⟨some 62, .call ⟨.value (.func 11), #[.tmp 59, .tmp 61], _⟩, _, _, _, _⟩) rfl (fun K hK => ?_) AllReadyH.nil
        go_simp
        go_at_call 11
        refine (CU.out _ (HM6.out.later hc) (HS6.out.later hc)).mono ?_
        rintro e y2 ⟨qv, rfl, hst, hn, hB⟩
        have hone := strs_one hst
        have hc := below_trans hc hB
        have hnew := hnew.later hB
        have hap := apart_new (l := a1.path) (hn.mono hg)
        refine hK.out _ _ ⟨HU6.out.later hc, HV6.out.later hc⟩ (fun hS => ?_)
        clear hB
        refine wpAnyH_take (i := 4) (oi := ⟨some 58, .move (.tmp 62), _, _, _, _⟩) (v := .tuple #[.agg (cU a1 qv), .bool true]) rfl (by kernel_rfl) (by kernel_rfl) (by kernel_rfl) (fun _ _ _ h => h) (Or.inl ⟨by rfl, ?_⟩) (by assumption) ?_
        · (intro v hv; go_simp)
        simp only [Act.put, List.setIfInBounds_toArray, List.set_cons_zero, List.set_cons_succ]
        refine wpAnyH_take (i := 5) (oi := ⟨some 63, .extract (.tmp 58) 0, _, _, _, _⟩) (v := .agg (cU a1 qv)) rfl (by kernel_rfl) (by kernel_rfl) (by kernel_rfl) (fun _ _ _ h => h) (Or.inl ⟨by rfl, ?_⟩) (by assumption) ?_
        · (intro v hv; go_simp)
        simp only [Act.put, List.setIfInBounds_toArray, List.set_cons_zero, List.set_cons_succ]
        refine wpAnyH_take (i := 6) (oi := ⟨some 64, .extract (.tmp 58) 1, _, _, _, _⟩) (v := .bool true) rfl (by kernel_rfl) (by kernel_rfl) (by kernel_rfl) (fun _ _ _ h => h) (Or.inl ⟨by rfl, ?_⟩) (by assumption) ?_
        · (intro v hv; go_simp)
        simp only [Act.put, List.setIfInBounds_toArray, List.set_cons_zero, List.set_cons_succ]
        refine wpAnyH_ready (rs := [8]) (by kernel_rfl) (by simp) ?_
        refine AllReadyH.cons (o := ⟨none, .store 27 (.tmp 12) (.tmp 63), _, _, _, _⟩) rfl (fun K hK => ?_) AllReadyH.nil
        rw [if_pos (by rfl)]
        refine wp_store_row 27 (.tmp 12) (.tmp 63) rfl V6.heap.size (cU a1 qv) rfl rfl 27 (cU none1 (.slice none 0 0)) hnew (by rw [cU_size _ _ l1]; exact size27) (by first | exact (cU_size none1 (.slice none 0 0) rfl).trans (cU_size a1 qv l1).symm | exact (cU_size a1 qv l1).trans (cU_size none1 (.slice none 0 0) rfl).symm) (cU_one _ _ hone) ?_
        have hr := hnew
        have hc0 := hc
        have hc := below_row hc hsz (cU a1 qv)
        refine hK.out _ _ ⟨HU6.out.later hc, HV6.out.later hc⟩ (fun hS => ?_)
        refine wpAnyH_take (i := 9) (oi := ⟨some 13, .assign (.tmp 64), _, _, _, _⟩) (v := .bool true) rfl (by kernel_rfl) (by kernel_rfl) (by kernel_rfl) (fun _ _ _ h => h) (Or.inl ⟨by rfl, ?_⟩) (by assumption) ?_
        · (intro v hv; go_simp)
        simp only [Act.put, List.setIfInBounds_toArray, List.set_cons_zero, List.set_cons_succ]
        refine wpAnyH_done (by kernel_rfl) ?_ _
        clear hS
        go_wp2_with fail
        go_meet
        exact ⟨_, qv, rfl, rfl, Lib.hid (hr.row a1 qv), Lib.hid (strs_apart hst hap (fun k hk => Url.setRow_other _ _ _ (Ne.symm hk))), Lib.hid hc⟩
    case rest =>
      obtain ⟨g2, qv, rfl, rfl, HQ, HR, hB⟩ := hcut
      have hB := hB.out
      have HB7 := Lib.hid (below_trans HB6.out hB)
      have HU7 := Lib.hid (HU6.out.later hB)
      have HV7 := Lib.hid (HV6.out.later hB)
      have HM7 := Lib.hid (HM6.out.later hB)
      have HS7 := Lib.hid (HS6.out.later hB)
      have HT7 := Lib.hid (HT6.out.later hB)
      have HP7 := Lib.hid (HP6.out.later hB)
      have HY7 := Lib.hid (HY6.out.later hB)
      clear HB6 HU6 HV6 HM6 HS6 HT6 HP6 HY6
      clear hB
      have HQ7 := HQ
      have HR7 := HR
      clear HQ HR CU CSh
      have hd := HDD.out
      have hsz := HSz.out
      have hu := HU7.out
      go_wp2_with ((with_reducible refine wp_load27 (o := ⟨some 66, .load 27 (.tmp 3), _, _, _, _⟩) ?_ (.tmp 3) ?_ w.heap.size ?_ a0 v0 l0 hu ?_); (· rfl); (· rfl); (· rfl); simp only [Act.put, List.setIfInBounds_toArray, List.set_cons_zero, List.set_cons_succ])
      refine (CR.out _ HM7.out HS7.out).mono ?_
      rintro e X7 ⟨rv, rfl, hst, hn, hB⟩
      clear hu CR hsz hd
      have hone := strs_one hst
      have hnew := new_url X7
      have hB2 := below_trans hB (below_url X7 Z rv)
      have HB8 := Lib.hid (below_trans HB7.out hB2)
      have HU8 := Lib.hid (HU7.out.later hB2)
      have HV8 := Lib.hid (HV7.out.later hB2)
      have HM8 := Lib.hid (HM7.out.later hB2)
      have HS8 := Lib.hid (HS7.out.later hB2)
      have HT8 := Lib.hid (HT7.out.later hB2)
      have HP8 := Lib.hid (HP7.out.later hB2)
      have HY8 := Lib.hid (HY7.out.later hB2)
      have HQ8 := Lib.hid (HQ7.out.later hB2)
      have HR8 := Lib.hid (HR7.out.later hB2)
      have HW8 := Lib.hid (hst.later (below_url X7 Z rv))
      have HZ8 := Lib.hid (hnew.row Z rv)
      clear HB7 HU7 HV7 HM7 HS7 HT7 HP7 HY7 HQ7 HR7 hst hn hB hB2
      go_wp2_with ((with_reducible refine wp_store27 (o := ⟨none, .store 27 (.tmp 14) (.tmp 70), _, _, _, _⟩) ?_ (.tmp 14) (.tmp 70) ?_ X7.heap.size ?_ Z rv ?_ LZ.out hone none1 (.slice none 0 0) rfl hnew ?_); (· rfl); (· rfl); (· rfl); (· rfl); simp only [Act.put, List.setIfInBounds_toArray, List.set_cons_zero, List.set_cons_succ])
      generalize (X7.alloc (.cells #[.string ⟨#[]⟩, .string ⟨#[]⟩, .string ⟨#[]⟩, .int .i64 0, .string ⟨#[]⟩, .int .i64 0, .int .i64 0, .int .i64 0, .int .i64 0, .int .i64 0, .int .i64 0, .int .i64 0, .int .i64 0, .int .i64 0, .int .i64 0, .slice none 0 0, .string ⟨#[]⟩, .string ⟨#[]⟩, .string ⟨#[]⟩, .bool false, .bool false] 27)).setRow X7.heap.size (cU Z rv) = V8 at HB8 HU8 HV8 HM8 HS8 HT8 HP8 HY8 HQ8 HR8 HW8 HZ8 ⊢
      generalize X7.heap.size = g3 at HZ8 ⊢
      clear hnew hone
      go_wp2_with fail
      have hc : Below V8.heap.size V8 V8.drew := (Below.refl _ _).drew
      refine wp_region_held_drew (S := fun v => UrlAt v g1 (bareU a0) pv ∧ UrlAt v w.heap.size a0 v0 ∧ UrlAt v g2 a1 qv ∧ UrlAt v (w.heap.size + 1) a1 v1 ∧ UrlAt v g3 Z rv) (by kernel_rfl) ⟨HY8.out.later hc, HU8.out.later hc, HQ8.out.later hc, HV8.out.later hc, HZ8.out.later hc⟩ (fun hS => ?_)
      refine wpAnyH_take (i := 0) (oi := ⟨some 72, .move (.tmp 11), _, _, _, _⟩) (v := .bool true) rfl (by kernel_rfl) (by kernel_rfl) (by kernel_rfl) (fun _ _ _ h => h) (Or.inl ⟨by rfl, ?_⟩) (by assumption) ?_
      · (intro v hv; go_simp)
      simp only [Act.put, List.setIfInBounds_toArray, List.set_cons_zero, List.set_cons_succ]
      refine wpAnyH_take (i := 1) (oi := ⟨some 73, .move (.tmp 72), _, _, _, _⟩) (v := .bool true) rfl (by kernel_rfl) (by kernel_rfl) (by kernel_rfl) (fun _ _ _ h => h) (Or.inl ⟨by rfl, ?_⟩) (by assumption) ?_
      · (intro v hv; go_simp)
      simp only [Act.put, List.setIfInBounds_toArray, List.set_cons_zero, List.set_cons_succ]
      refine wpAnyH_take (i := 2) (oi := ⟨some 74, .load 27 (.tmp 10), _, _, _, _⟩) (v := .agg (cU (bareU a0) pv)) rfl (by kernel_rfl) (by kernel_rfl) (by kernel_rfl) (fun _ _ _ h => h) (Or.inl ⟨by rfl, ?_⟩) (by assumption) ?_
      · (exact fun v hv => run_load_of 27 (.tmp 10) ⟨g1, 0, none⟩ rfl (.agg (cU (bareU a0) pv)) (hv.1.load LB.out))
      simp only [Act.put, List.setIfInBounds_toArray, List.set_cons_zero, List.set_cons_succ]
      refine wpAnyH_take (i := 3) (oi := ⟨some 75, .load 27 (.tmp 3), _, _, _, _⟩) (v := .agg (cU a0 v0)) rfl (by kernel_rfl) (by kernel_rfl) (by kernel_rfl) (fun _ _ _ h => h) (Or.inl ⟨by rfl, ?_⟩) (by assumption) ?_
      · (exact fun v hv => run_load_of 27 (.tmp 3) ⟨w.heap.size, 0, none⟩ rfl (.agg (cU a0 v0)) (hv.2.1.load l0))
      simp only [Act.put, List.setIfInBounds_toArray, List.set_cons_zero, List.set_cons_succ]
      refine wpAnyH_ready (rs := [4]) (by kernel_rfl) (by simp) ?_
      refine AllReadyH.cons (o := ⟨some 76, .call ⟨.value (.func 23), #[.tmp 75], _⟩, _, _, _, _⟩) rfl (fun K hK => ?_) AllReadyH.nil
      go_simp
      go_at_call 23
      refine (CB.out _ (HS8.out.later hc)).mono ?_
      rintro e x ⟨b1, rfl, hb1, hnw, hB⟩
      have hc := below_trans hc hB
      refine hK.out _ _ ⟨HY8.out.later hc, HU8.out.later hc, HQ8.out.later hc, HV8.out.later hc, HZ8.out.later hc⟩ (fun hS => ?_)
      clear hB hnw
      refine wpAnyH_ready (rs := [5]) (by kernel_rfl) (by simp) ?_
      refine AllReadyH.cons (o := ⟨some 77, .call ⟨.value (.func 18), #[.tmp 74, .tmp 76], _⟩, _, _, _, _⟩) rfl (fun K hK => ?_) AllReadyH.nil
      go_simp
      go_at_call 18
      refine (CE.out pv b1 _ (HP8.out.later hc) hb1).mono ?_
      rintro e x ⟨rfl, hB⟩
      have hc := below_trans hc hB
      refine hK.out _ _ ⟨HY8.out.later hc, HU8.out.later hc, HQ8.out.later hc, HV8.out.later hc, HZ8.out.later hc⟩ (fun hS => ?_)
      clear hB hb1
      refine wpAnyH_take (i := 6) (oi := ⟨some 78, .pick (.tmp 73) (.tmp 77) (.const (.bool false)), _, _, _, _⟩) (v := .bool true) rfl (by kernel_rfl) (by kernel_rfl) (by kernel_rfl) (fun _ _ _ h => h) (Or.inl ⟨by rfl, ?_⟩) (by assumption) ?_
      · (intro v hv; go_simp)
      simp only [Act.put, List.setIfInBounds_toArray, List.set_cons_zero, List.set_cons_succ]
      refine wpAnyH_take (i := 7) (oi := ⟨some 79, .move (.tmp 78), _, _, _, _⟩) (v := .bool true) rfl (by kernel_rfl) (by kernel_rfl) (by kernel_rfl) (fun _ _ _ h => h) (Or.inl ⟨by rfl, ?_⟩) (by assumption) ?_
      · (intro v hv; go_simp)
      simp only [Act.put, List.setIfInBounds_toArray, List.set_cons_zero, List.set_cons_succ]
      refine wpAnyH_take (i := 8) (oi := ⟨some 80, .move (.tmp 13), _, _, _, _⟩) (v := .bool true) rfl (by kernel_rfl) (by kernel_rfl) (by kernel_rfl) (fun _ _ _ h => h) (Or.inl ⟨by rfl, ?_⟩) (by assumption) ?_
      · (intro v hv; go_simp)
      simp only [Act.put, List.setIfInBounds_toArray, List.set_cons_zero, List.set_cons_succ]
      refine wpAnyH_take (i := 9) (oi := ⟨some 81, .pick (.tmp 79) (.tmp 80) (.const (.bool false)), _, _, _, _⟩) (v := .bool true) rfl (by kernel_rfl) (by kernel_rfl) (by kernel_rfl) (fun _ _ _ h => h) (Or.inl ⟨by rfl, ?_⟩) (by assumption) ?_
      · (intro v hv; go_simp)
      simp only [Act.put, List.setIfInBounds_toArray, List.set_cons_zero, List.set_cons_succ]
      refine wpAnyH_take (i := 10) (oi := ⟨some 82, .move (.tmp 81), _, _, _, _⟩) (v := .bool true) rfl (by kernel_rfl) (by kernel_rfl) (by kernel_rfl) (fun _ _ _ h => h) (Or.inl ⟨by rfl, ?_⟩) (by assumption) ?_
      · (intro v hv; go_simp)
      simp only [Act.put, List.setIfInBounds_toArray, List.set_cons_zero, List.set_cons_succ]
      refine wpAnyH_take (i := 11) (oi := ⟨some 83, .load 27 (.tmp 12), _, _, _, _⟩) (v := .agg (cU a1 qv)) rfl (by kernel_rfl) (by kernel_rfl) (by kernel_rfl) (fun _ _ _ h => h) (Or.inl ⟨by rfl, ?_⟩) (by assumption) ?_
      · (exact fun v hv => run_load_of 27 (.tmp 12) ⟨g2, 0, none⟩ rfl (.agg (cU a1 qv)) (hv.2.2.1.load l1))
      simp only [Act.put, List.setIfInBounds_toArray, List.set_cons_zero, List.set_cons_succ]
      refine wpAnyH_take (i := 12) (oi := ⟨some 84, .load 27 (.tmp 4), _, _, _, _⟩) (v := .agg (cU a1 v1)) rfl (by kernel_rfl) (by kernel_rfl) (by kernel_rfl) (fun _ _ _ h => h) (Or.inl ⟨by rfl, ?_⟩) (by assumption) ?_
      · (exact fun v hv => run_load_of 27 (.tmp 4) ⟨(w.heap.size + 1), 0, none⟩ rfl (.agg (cU a1 v1)) (hv.2.2.2.1.load l1))
      simp only [Act.put, List.setIfInBounds_toArray, List.set_cons_zero, List.set_cons_succ]
      refine wpAnyH_ready (rs := [13]) (by kernel_rfl) (by simp) ?_
      refine AllReadyH.cons (o := ⟨some 85, .call ⟨.value (.func 18), #[.tmp 83, .tmp 84], _⟩, _, _, _, _⟩) rfl (fun K hK => ?_) AllReadyH.nil
      go_simp
      go_at_call 18
      refine (CG.out qv v1 _ (HR8.out.later hc) (HT8.out.later hc)).mono ?_
      rintro e x ⟨rfl, hB⟩
      have hc := below_trans hc hB
      refine hK.out _ _ ⟨HY8.out.later hc, HU8.out.later hc, HQ8.out.later hc, HV8.out.later hc, HZ8.out.later hc⟩ (fun hS => ?_)
      clear hB
      refine wpAnyH_take (i := 14) (oi := ⟨some 86, .pick (.tmp 82) (.tmp 85) (.const (.bool false)), _, _, _, _⟩) (v := .bool true) rfl (by kernel_rfl) (by kernel_rfl) (by kernel_rfl) (fun _ _ _ h => h) (Or.inl ⟨by rfl, ?_⟩) (by assumption) ?_
      · (intro v hv; go_simp)
      simp only [Act.put, List.setIfInBounds_toArray, List.set_cons_zero, List.set_cons_succ]
      refine wpAnyH_take (i := 15) (oi := ⟨some 87, .move (.tmp 86), _, _, _, _⟩) (v := .bool true) rfl (by kernel_rfl) (by kernel_rfl) (by kernel_rfl) (fun _ _ _ h => h) (Or.inl ⟨by rfl, ?_⟩) (by assumption) ?_
      · (intro v hv; go_simp)
      simp only [Act.put, List.setIfInBounds_toArray, List.set_cons_zero, List.set_cons_succ]
      refine wpAnyH_take (i := 16) (oi := ⟨some 88, .move (.tmp 15), _, _, _, _⟩) (v := .bool true) rfl (by kernel_rfl) (by kernel_rfl) (by kernel_rfl) (fun _ _ _ h => h) (Or.inl ⟨by rfl, ?_⟩) (by assumption) ?_
      · (intro v hv; go_simp)
      simp only [Act.put, List.setIfInBounds_toArray, List.set_cons_zero, List.set_cons_succ]
      refine wpAnyH_take (i := 17) (oi := ⟨some 89, .pick (.tmp 87) (.tmp 88) (.const (.bool false)), _, _, _, _⟩) (v := .bool true) rfl (by kernel_rfl) (by kernel_rfl) (by kernel_rfl) (fun _ _ _ h => h) (Or.inl ⟨by rfl, ?_⟩) (by assumption) ?_
      · (intro v hv; go_simp)
      simp only [Act.put, List.setIfInBounds_toArray, List.set_cons_zero, List.set_cons_succ]
      refine wpAnyH_take (i := 18) (oi := ⟨some 90, .move (.tmp 89), _, _, _, _⟩) (v := .bool true) rfl (by kernel_rfl) (by kernel_rfl) (by kernel_rfl) (fun _ _ _ h => h) (Or.inl ⟨by rfl, ?_⟩) (by assumption) ?_
      · (intro v hv; go_simp)
      simp only [Act.put, List.setIfInBounds_toArray, List.set_cons_zero, List.set_cons_succ]
      refine wpAnyH_take (i := 19) (oi := ⟨some 91, .load 27 (.tmp 14), _, _, _, _⟩) (v := .agg (cU Z rv)) rfl (by kernel_rfl) (by kernel_rfl) (by kernel_rfl) (fun _ _ _ h => h) (Or.inl ⟨by rfl, ?_⟩) (by assumption) ?_
      · (exact fun v hv => run_load_of 27 (.tmp 14) ⟨g3, 0, none⟩ rfl (.agg (cU Z rv)) (hv.2.2.2.2.load LZ.out))
      simp only [Act.put, List.setIfInBounds_toArray, List.set_cons_zero, List.set_cons_succ]
      refine wpAnyH_take (i := 21) (oi := ⟨some 93, .load 27 (.tmp 3), _, _, _, _⟩) (v := .agg (cU a0 v0)) rfl (by kernel_rfl) (by kernel_rfl) (by kernel_rfl) (fun _ _ _ h => h) (Or.inl ⟨by rfl, ?_⟩) (by assumption) ?_
      · (exact fun v hv => run_load_of 27 (.tmp 3) ⟨w.heap.size, 0, none⟩ rfl (.agg (cU a0 v0)) (hv.2.1.load l0))
      simp only [Act.put, List.setIfInBounds_toArray, List.set_cons_zero, List.set_cons_succ]
      refine wpAnyH_ready (rs := [20]) (by kernel_rfl) (by simp) ?_
      refine AllReadyH.cons (o := ⟨some 92, .call ⟨.value (.func 23), #[.tmp 91], _⟩, _, _, _, _⟩) rfl (fun K hK => ?_) AllReadyH.nil
      go_simp
      go_at_call 23
      refine (CV.out rv _ (HW8.out.later hc)).mono ?_
      rintro e x ⟨b2, rfl, hb2, hnw, hB⟩
      have hc := below_trans hc hB
      refine hK.out _ _ ⟨HY8.out.later hc, HU8.out.later hc, HQ8.out.later hc, HV8.out.later hc, HZ8.out.later hc⟩ (fun hS => ?_)
      clear hB hnw
      refine wpAnyH_ready (rs := [22]) (by kernel_rfl) (by simp) ?_
      refine AllReadyH.cons (o := ⟨some 94, .call ⟨.value (.func 23), #[.tmp 93], _⟩, _, _, _, _⟩) rfl (fun K hK => ?_) AllReadyH.nil
      go_simp
      go_at_call 23
      refine (CB.out _ (HS8.out.later hc)).mono ?_
      rintro e x ⟨b3, rfl, hb3, hnw, hB⟩
      have hc := below_trans hc hB
      have hb2 := hb2.later hB
      refine hK.out _ _ ⟨HY8.out.later hc, HU8.out.later hc, HQ8.out.later hc, HV8.out.later hc, HZ8.out.later hc⟩ (fun hS => ?_)
      clear hB hnw
      refine wpAnyH_ready (rs := [23]) (by kernel_rfl) (by simp) ?_
      refine AllReadyH.cons (o := ⟨some 95, .call ⟨.value (.func 18), #[.tmp 92, .tmp 94], _⟩, _, _, _, _⟩) rfl (fun K hK => ?_) AllReadyH.nil
      go_simp
      go_at_call 18
      refine (CE.out b2 b3 _ hb2 hb3).mono ?_
      rintro e x ⟨rfl, hB⟩
      have hc := below_trans hc hB
      refine hK.out _ _ ⟨HY8.out.later hc, HU8.out.later hc, HQ8.out.later hc, HV8.out.later hc, HZ8.out.later hc⟩ (fun hS => ?_)
      clear hB hb2 hb3
      refine wpAnyH_take (i := 24) (oi := ⟨some 96, .pick (.tmp 90) (.tmp 95) (.const (.bool false)), _, _, _, _⟩) (v := .bool true) rfl (by kernel_rfl) (by kernel_rfl) (by kernel_rfl) (fun _ _ _ h => h) (Or.inl ⟨by rfl, ?_⟩) (by assumption) ?_
      · (intro v hv; go_simp)
      simp only [Act.put, List.setIfInBounds_toArray, List.set_cons_zero, List.set_cons_succ]
      refine wpAnyH_take (i := 25) (oi := ⟨some 97, .move (.tmp 96), _, _, _, _⟩) (v := .bool true) rfl (by kernel_rfl) (by kernel_rfl) (by kernel_rfl) (fun _ _ _ h => h) (Or.inl ⟨by rfl, ?_⟩) (by assumption) ?_
      · (intro v hv; go_simp)
      simp only [Act.put, List.setIfInBounds_toArray, List.set_cons_zero, List.set_cons_succ]
      refine wpAnyH_take (i := 26) (oi := ⟨some 98, .fieldAddr 27 (.tmp 14) 10, _, _, _, _⟩) (v := .pointer (some ⟨g3, 20, none⟩)) rfl (by kernel_rfl) (by kernel_rfl) (by kernel_rfl) (fun _ _ _ h => h) (Or.inl ⟨by rfl, ?_⟩) (by assumption) ?_
      · (intro v hv; go_simp)
      simp only [Act.put, List.setIfInBounds_toArray, List.set_cons_zero, List.set_cons_succ]
      refine wpAnyH_take (i := 27) (oi := ⟨some 99, .load 4 (.tmp 98), _, _, _, _⟩) (v := .bool true) rfl (by kernel_rfl) (by kernel_rfl) (by kernel_rfl) (fun _ _ _ h => h) (Or.inl ⟨by rfl, ?_⟩) (by assumption) ?_
      · (exact fun v hv => run_load_of 4 (.tmp 98) ⟨g3, 20, none⟩ rfl (.bool true) (by have := load4 ((hv.2.2.2.2.cell 20).trans (cU_at Z rv LZ.out).2.2.2.2.2.2.2.2.2.2); rw [HZf.out] at this; exact this))
      simp only [Act.put, List.setIfInBounds_toArray, List.set_cons_zero, List.set_cons_succ]
      refine wpAnyH_take (i := 28) (oi := ⟨some 100, .pick (.tmp 97) (.tmp 99) (.const (.bool false)), _, _, _, _⟩) (v := .bool true) rfl (by kernel_rfl) (by kernel_rfl) (by kernel_rfl) (fun _ _ _ h => h) (Or.inl ⟨by rfl, ?_⟩) (by assumption) ?_
      · (intro v hv; go_simp)
      simp only [Act.put, List.setIfInBounds_toArray, List.set_cons_zero, List.set_cons_succ]
      refine wpAnyH_take (i := 29) (oi := ⟨some 6, .assign (.tmp 100), _, _, _, _⟩) (v := .bool true) rfl (by kernel_rfl) (by kernel_rfl) (by kernel_rfl) (fun _ _ _ h => h) (Or.inl ⟨by rfl, ?_⟩) (by assumption) ?_
      · (intro v hv; go_simp)
      simp only [Act.put, List.setIfInBounds_toArray, List.set_cons_zero, List.set_cons_succ]
      refine wpAnyH_done (by kernel_rfl) ?_ _
      go_wp2
      go_ret
      exact ⟨rfl, HX.out.trans ((below_trans HB8.out hc).mono HX.out.size)⟩
  · go_wp2
    go_ret
    exact ⟨rfl, HX.out.trans (HB3.out.mono HX.out.size)⟩

/-! ### The row's step -/
theorem reads (os : Os) {H : Type} (enc : TypeId × Value → H) : (DataW.whole enc Tryz.prog ((Card.laidWorld os).forCall (fun _ _ => 0) ⟨#[], #[.agg #[.string ByteArray.empty, .string ByteArray.empty, .string ByteArray.empty, .int .i64 0, .string ByteArray.empty, .int .i64 0, .int .i64 0, .int .i64 0, .int .i64 0, .int .i64 0, .int .i64 0, .int .i64 0, .int .i64 0, .int .i64 0, .int .i64 0, .slice none 0 0, .string ByteArray.empty, .string ByteArray.empty, .string ByteArray.empty, .bool false, .bool false], .agg #[.string ByteArray.empty, .string ByteArray.empty, .string ByteArray.empty, .int .i64 0, .string ByteArray.empty, .int .i64 0, .int .i64 0, .int .i64 0, .int .i64 0, .int .i64 0, .int .i64 0, .int .i64 0, .int .i64 0, .int .i64 0, .int .i64 0, .slice none 0 0, .string ByteArray.empty, .string ByteArray.empty, .string ByteArray.empty, .bool false, .bool false], .string ByteArray.empty], []⟩).memory Tryz.f5.params.toList Rows.joinSelfSpec.vars false (#[.agg #[.string ByteArray.empty, .string ByteArray.empty, .string ByteArray.empty, .int .i64 0, .string ByteArray.empty, .int .i64 0, .int .i64 0, .int .i64 0, .int .i64 0, .int .i64 0, .int .i64 0, .int .i64 0, .int .i64 0, .int .i64 0, .int .i64 0, .slice none 0 0, .string ByteArray.empty, .string ByteArray.empty, .string ByteArray.empty, .bool false, .bool false], .agg #[.string ByteArray.empty, .string ByteArray.empty, .string ByteArray.empty, .int .i64 0, .string ByteArray.empty, .int .i64 0, .int .i64 0, .int .i64 0, .int .i64 0, .int .i64 0, .int .i64 0, .int .i64 0, .int .i64 0, .int .i64 0, .int .i64 0, .slice none 0 0, .string ByteArray.empty, .string ByteArray.empty, .string ByteArray.empty, .bool false, .bool false], .string ByteArray.empty] : Array Value).toList 8).map (fun x => (x.1, x.2.1)) = some ([.agg [.lit (.string []), .lit (.string []), .lit (.string []), .agg [.lit (.int .i64 0), .lit (.string []), .lit (.int .i64 0), .agg [.lit (.int .i64 0), .lit (.int .i64 0), .lit (.int .i64 0), .lit (.int .i64 0), .lit (.int .i64 0), .lit (.int .i64 0), .lit (.int .i64 0), .lit (.int .i64 0)]], .lit (.int .i64 0), .nil, .lit (.string []), .lit (.string []), .lit (.string []), .lit (.bool false), .lit (.bool false)], .agg [.lit (.string []), .lit (.string []), .lit (.string []), .agg [.lit (.int .i64 0), .lit (.string []), .lit (.int .i64 0), .agg [.lit (.int .i64 0), .lit (.int .i64 0), .lit (.int .i64 0), .lit (.int .i64 0), .lit (.int .i64 0), .lit (.int .i64 0), .lit (.int .i64 0), .lit (.int .i64 0)]], .lit (.int .i64 0), .nil, .lit (.string []), .lit (.string []), .lit (.string []), .lit (.bool false), .lit (.bool false)], .lit (.string [])], []) := by kernel_rfl
set_option maxRecDepth 100000 in
theorem lifted (os : Os) (started : os.Started) (H : Type) (enc : TypeId × Value → H) (F : Stop.Interp) :
    ReturnsInHanded {} Tryz.checked os 5 .any ((OpenSpec.ofChange Rows.joinSelfSpec).preRow enc Tryz.prog Tryz.f5 Rows.joinSelfRow.domain false Rows.joinSelfRow.laid) (((OpenSpec.ofChange Rows.joinSelfSpec).at F).post enc Tryz.prog Tryz.f5 false true false false) := by
  obtain ⟨⟨x1, x2, x3⟩, hx, hx1⟩ := Option.map_eq_some_iff.1 (reads os enc)
  simp only [Prod.mk.injEq] at hx1
  obtain ⟨rfl, rfl⟩ := hx1
  refine returnsInHanded_of_row (C := Tryz.checked) (s := OpenSpec.ofChange Rows.joinSelfSpec) own started (by kernel_rfl) Tryz.func5
    (witness_row_at (enc := enc) (C := Tryz.checked) false (Card.laidWorld os) #[.agg #[.string ByteArray.empty, .string ByteArray.empty, .string ByteArray.empty, .int .i64 0, .string ByteArray.empty, .int .i64 0, .int .i64 0, .int .i64 0, .int .i64 0, .int .i64 0, .int .i64 0, .int .i64 0, .int .i64 0, .int .i64 0, .int .i64 0, .slice none 0 0, .string ByteArray.empty, .string ByteArray.empty, .string ByteArray.empty, .bool false, .bool false], .agg #[.string ByteArray.empty, .string ByteArray.empty, .string ByteArray.empty, .int .i64 0, .string ByteArray.empty, .int .i64 0, .int .i64 0, .int .i64 0, .int .i64 0, .int .i64 0, .int .i64 0, .int .i64 0, .int .i64 0, .int .i64 0, .int .i64 0, .slice none 0 0, .string ByteArray.empty, .string ByteArray.empty, .string ByteArray.empty, .bool false, .bool false], .string ByteArray.empty] rfl (by kernel_rfl) (by kernel_rfl) (by kernel_rfl)
      (OpenSpec.preRow_of_cond 8 hx (by kernel_rfl) (fun k hk => by cases hk) (by kernel_rfl) (Card.laid_met os _))) ?_
  intro W base args ds gs before hval0 hW _ _ _ hL hsh _
  obtain ⟨m, hmax⟩ := Card.maxLen_int hsh
  have hm : Six.At m W := ⟨hmax, Six.tab_of hL⟩
  have hval : ∀ (j : Nat) t v, Tryz.f5.params[j]? = some t → args[j]? = some v → Value.okWide Tryz.prog W .any base t v := hval0
  have hW' := hW
  obtain ⟨p, q, hA0, hV, rfl, hfz, hnd⟩ := hW
  have hA : DataW.TrodAll enc Tryz.prog W 0 (fun _ => true) true Tryz.f5.params.toList args.toList ds p := hA0
  rw [Tryz.params5] at hA hval
  obtain ⟨v0, vs0, d0, ds0, p0, q0, hargs0, rfl, rfl, t0, r0⟩ := trodAll_cons hA
  obtain ⟨v1, vs1, d1, ds1, p1, q1, hargs1, rfl, rfl, t1, r1⟩ := trodAll_cons r0
  obtain ⟨v2, vs2, d2, ds2, p2, q2, hargs2, rfl, rfl, t2, r2⟩ := trodAll_cons r1
  obtain ⟨rfl, rfl, rfl⟩ := trodAll_nil r2
  obtain rfl : args = #[v0, v1, v2] := by cases args; simp_all
  obtain ⟨rfl, rfl⟩ := trodVars_none hV
  have k0 := t0
  have lt0 : ∀ x ∈ p0, x.block < W.heap.size := by obtain ⟨m, hm⟩ := k0; exact DataW.trod_lt m _ _ _ hm
  obtain ⟨a0, pv0, l0, rfl, z0, w0⟩ := Url.open_url (hval 0 27 v0 rfl rfl) t0
  have k1 := t1
  have lt1 : ∀ x ∈ p1, x.block < W.heap.size := by obtain ⟨m, hm⟩ := k1; exact DataW.trod_lt m _ _ _ hm
  obtain ⟨a1, pv1, l1, rfl, z1, w1⟩ := Url.open_url (hval 1 27 v1 rfl rfl) t1
  obtain ⟨a2, rfl, rfl, rfl, w2⟩ := open_string Tryz.underlying9 (hval 2 9 v2 rfl rfl) t2
  clear hA0 hval0
  simp only [List.append_nil] at hW'
  refine (walk a0 pv0 l0 a1 pv1 l1 a2 w2 m W hm z0 w0 z1 w1).mono fun e W' ⟨he, bel⟩ => ?_
  subst he
  exact ⟨_, rfl, _, _, _, [], _, [], hW', trodAll_mk1 (shut_bool Tryz.underlying4 _), (trodAll_cons_mk (Below.trod laidOut (by kernel_rfl) (of_decide_eq_true (by kernel_rfl)) k0 bel lt0) (trodAll_cons_mk (Below.trod laidOut (by kernel_rfl) (of_decide_eq_true (by kernel_rfl)) k1 bel lt1) (trodAll_cons_mk (shut_string Tryz.underlying9 w2) trodAll_mk0))), rfl, bel.frame _, fun h => by cases h⟩

theorem said : Rows.joinSelfRow.holds Tryz.pinned (OpenSpec.ofChange Rows.joinSelfSpec) :=
  OpenClaim.holds_of_cond 5 Tryz.f5 rfl rfl rfl rfl rfl rfl rfl ⟨rfl, rfl, rfl, rfl, rfl⟩ rfl rfl rfl rfl rfl (by kernel_rfl) Tryz.func5 (by kernel_rfl)
    (of_decide_eq_true (by kernel_rfl)) (by unfold Func.isWrapper; first | (rw [if_pos (by decide +kernel)]; kernel_rfl) | (rw [if_neg (by decide +kernel)]; exact ⟨rfl, rfl⟩))
    (fun os started H enc _ F => by rw [OpenClaim.pre_eq_preRow]; exact lifted os started H enc F)

/-- No parameter wants a stand-in; the program's own looks are on. -/
theorem plain (f : FuncId) (fn : Func) (hf : Tryz.pinned.checked.prog.funcNamed Rows.joinSelfRow.func = some f) (hfn : Tryz.pinned.checked.prog.funcs[f]? = some fn) :
    true = Tryz.pinned.checked.prog.looks [] ∧ ∀ (j : Nat) t, fn.params[j]? = some t → Tryz.pinned.checked.prog.wantsStandIn t = false := by
  obtain rfl : f = 5 := Option.some.inj ((show Tryz.prog.funcNamed Rows.joinSelfRow.func = some 5 by kernel_rfl).symm.trans hf) |>.symm
  obtain rfl : fn = Tryz.f5 := (Option.some.inj (Tryz.func5.symm.trans hfn)).symm
  refine ⟨by kernel_rfl, fun j t ht => ?_⟩
  rw [Tryz.params5] at ht
  obtain rfl | rfl : t = 27 ∨ t = 9 := by simpa using Array.mem_of_getElem? ht
  · exact (show Tryz.prog.wantsStandIn 27 = false by kernel_rfl)
  · exact (show Tryz.prog.wantsStandIn 9 = false by kernel_rfl)

/-- The statement: the card. -/
theorem proved : Rows.JoinSelfCardSaid :=
  Claim7.holds_tied_plain_at .later [] _ _ _ _ said (fun _ h => by cases h) (by kernel_rfl) (fun _ h => by cases h) joinSelf_row_tie rfl ⟨rfl, rfl⟩ (by kernel_rfl) rfl plain (by kernel_rfl)
#print axioms proved
end Go.Proofs.YtkhjhiofgoampaaGreatDoor.joinSelf
