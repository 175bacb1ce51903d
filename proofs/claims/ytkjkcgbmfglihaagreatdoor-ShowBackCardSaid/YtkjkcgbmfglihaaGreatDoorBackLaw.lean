/-
  WHAT IS PROVED: the card of ShowBack: of any text of at most 400 bytes, and any address whose parts are few and short: what is shown of an address that may be is parsed to the same address, of another one nothing is shown; what is parsed is shown as something that is parsed to it.
  CONDITIONS: none but the card's own: the listed tables read as their texts lay them; the text and the address are any.
-/
import Derived.Test.YtkjkcgbmfglihaaGreatDoorCards
import Derived.Test.YtkjkcgbmfglihaaGreatDoorTie
import Derived.WalkKit
import Derived.ProofKit
import Derived.OpenShut
import Derived.ShutString
import Derived.ChangeOld
import Derived.Below
import Derived.Deep.RegionHeld
import Derived.Laws.AppendOwnNone
import Derived.Test.YtkjkcgbmfglihaaGreatDoorSHSize
import Derived.Test.YtkjkcgbmfglihaaGreatDoorLaid
import Derived.Test.YtkjkcgbmfglihaaGreatDoorHOpen
namespace Go.Proofs.YtkjkcgbmfglihaaGreatDoor.showBack
open Go.ChangeShapes Go.WideShapes Go.ChangeAt Go.RowKit
open Go.ChangeMaps (open_string shut_string)
open Go.Shelf
open Go.Proofs.YtkjkcgbmfglihaaGreatDoor.Url
open Go.Proofs.YtkjkcgbmfglihaaGreatDoor.Host (H)
open Go.Proofs.YtkjkcgbmfglihaaGreatDoor.Path (Strs)
set_option linter.unusedSimpArgs false
set_option linter.unusedVariables false

theorem own : ownKnob Tryz.prog.godebug = none := by kernel_rfl
theorem laidOut : laidOutB Tryz.prog = true := by kernel_rfl

open Go.Proofs.YtkjkcgbmfglihaaGreatDoor.Show
set_option maxRecDepth 100000
set_option maxHeartbeats 16000000 in
theorem walk (a0 : ByteArray) (a1 : U) (v1 : Value) (l1 : a1.h.p.length = 8) (w0 : a0.size ≤ maxLen) (m : Int) (w : World) (hm : Six.At m w) (s1 : Path.Strs w v1 a1.path) (w1 : (Lit.int .i64 a1.port).wf = true) :
    Calls Tryz.prog 5 #[.string a0, .agg (cU a1 v1)] w fun e w' => e = .returned (.bool true) ∧ Below w.heap.size w w' := by
  have HX := Lib.hid (show Below w.heap.size w (w.alloc (.cells (cU a1 v1) 27)) from (Below.refl w.heap.size w).alloc (Nat.le_refl _) _)
  have HU0 := Lib.hid (UrlAt.new w a1 v1)
  have HM0 := Lib.hid (hm.later HX.out)
  have HS0 := Lib.hid (s1.later HX.out)
  unfold maxLen at w0
  clear hm s1 w1
  go_enter Tryz.func5, Tryz.ntmps5
  go_wp2_with fail
  generalize w.alloc (.cells (cU a1 v1) 27) = X0 at HX HU0 HM0 HS0 ⊢
  refine (Show.awake_calls m X0 HM0.out).mono ?_
  rintro e X1 ⟨rfl, hB⟩
  have HB1 := Lib.hid (hB)
  have HU1 := Lib.hid (HU0.out.later hB)
  have HM1 := Lib.hid (HM0.out.later hB)
  have HS1 := Lib.hid (HS0.out.later hB)
  clear HU0 HM0 HS0
  clear hB
  obtain ⟨f0, hf0⟩ : ∃ b, fewU a1 = b := ⟨_, rfl⟩
  have hu := HU1.out
  go_wp2_with ((with_reducible refine wp_load27 (o := ⟨some 16, .load 27 (.tmp 3), _, _, _, _⟩) ?_ (.tmp 3) ?_ w.heap.size ?_ a1 v1 l1 hu ?_); (· rfl); (· rfl); (· rfl); simp only [Act.put, List.setIfInBounds_toArray, List.set_cons_zero, List.set_cons_succ])
  refine (few_any a1 v1 l1 f0 hf0 _ HS1.out).mono ?_
  rintro e X2 ⟨rfl, hB⟩
  have HB2 := Lib.hid (below_trans HB1.out hB)
  have HU2 := Lib.hid (HU1.out.later hB)
  have HM2 := Lib.hid (HM1.out.later hB)
  have HS2 := Lib.hid (HS1.out.later hB)
  clear HB1 HU1 HM1 HS1
  clear hB hu
  cases f0
  · go_wp2
    go_ret
    exact ⟨rfl, HX.out.trans (HB2.out.mono HX.out.size)⟩
  by_cases h0 : a0.size ≤ 400
  case neg =>
    have q0 : decide ((400 : Int) < (a0.size : Int)) = true := decide_eq_true (by omega)
    go_wp2
    go_ret
    exact ⟨rfl, HX.out.trans (HB2.out.mono HX.out.size)⟩
  have q0 : decide ((400 : Int) < (a0.size : Int)) = false := decide_eq_false (by omega)
  have HF := Lib.hid (few_fit a1 l1 hf0)
  obtain ⟨b, hb⟩ : ∃ b, mayU a1 = b := ⟨_, rfl⟩
  obtain ⟨c, hc⟩ : ∃ c, okU a0.data.toList = c := ⟨_, rfl⟩
  obtain ⟨S, hS⟩ : ∃ S, tb (showU a1) = S := ⟨_, rfl⟩
  obtain ⟨x, hx⟩ : ∃ x : U, parU a0.data.toList = x := ⟨_, rfl⟩
  obtain ⟨R, hR⟩ : ∃ R, tb (showU x) = R := ⟨_, rfl⟩
  obtain ⟨p, hp⟩ : ∃ p : U, parU S.data.toList = p := ⟨_, rfl⟩
  obtain ⟨y, hy⟩ : ∃ y : U, parU R.data.toList = y := ⟨_, rfl⟩
  obtain ⟨d, hd⟩ : ∃ d, okU R.data.toList = d := ⟨_, rfl⟩
  have HX8 := Lib.hid (par_small a0.data.toList h0)
  rw [hx] at HX8
  have hSs : S.size ≤ 25000 := by rw [size_tb hS]; exact few_show a1 l1 hf0
  have hRs : R.size ≤ 25000 := by rw [size_tb hR]; exact HX8.out.show
  have kb := back a1 l1
  have kx := back x HX8.out.h8
  have hb1 : okU S.data.toList = b := by rw [list_tb hS, kb.1, hb]
  have C0 := Lib.hid (fun x hx hy => Show.show_any a1 v1 HF.out S hS m x hx hy)
  have CP := Lib.hid (fun w hm => parse_in S hSs b hb1 m w hm)
  have CA := Lib.hid (fun x hx hy => may_any a1 v1 HF.out b hb m x hx hy)
  have CQ := Lib.hid (fun w hm => parse_in a0 (by omega) c hc m w hm)
  have CR := Lib.hid (fun v z hx hy => Show.show_any x v HX8.out.fit R hR m z hx hy)
  have CT := Lib.hid (fun w hm => parse_in R hRs d hd m w hm)
  rw [hp] at CP
  rw [hx] at CQ
  rw [hy] at CT
  have Hp8 := Lib.hid (show p.h.p.length = 8 by rw [← hp]; exact par8 _)
  have Hx8 := Lib.hid HX8.out.h8
  have Hy8 := Lib.hid (show y.h.p.length = 8 by rw [← hy]; exact par8 _)
  have HA := Lib.hid (show b = true → p = a1 from fun h => by rw [← hp, list_tb hS]; exact kb.2 (hb.trans h))
  have HC := Lib.hid (show c = true → d = true ∧ y = x from fun h => by
    have hm : mayU x = true := by rw [← hx]; exact par_may _ (hc.trans h)
    exact ⟨by rw [← hd, list_tb hR, kx.1, hm], by rw [← hy, list_tb hR]; exact kx.2 hm⟩)
  have HE := Lib.hid (show S.toList.isEmpty = !b from by
    rw [Path.tl, list_tb hS]
    cases b
    · have : showU a1 = [] := by unfold showU; rw [hb]; rfl
      rw [this]; rfl
    · have := (show_ne a1).2 hb
      cases e : showU a1 with
      | nil => exact absurd e this
      | cons a r => rfl)
  clear hf0 hb hc hS hx hR hp hy hd HX8 hSs hRs kb kx hb1 HF
  have hu := HU2.out
  go_wp2_with ((with_reducible refine wp_load27 (o := ⟨some 30, .load 27 (.tmp 3), _, _, _, _⟩) ?_ (.tmp 3) ?_ w.heap.size ?_ a1 v1 l1 hu ?_); (· rfl); (· rfl); (· rfl); simp only [Act.put, List.setIfInBounds_toArray, List.set_cons_zero, List.set_cons_succ])
  refine (C0.out _ HM2.out HS2.out).mono ?_
  rintro e X3 ⟨rfl, hB⟩
  have HB3 := Lib.hid (below_trans HB2.out hB)
  have HU3 := Lib.hid (HU2.out.later hB)
  have HM3 := Lib.hid (HM2.out.later hB)
  have HS3 := Lib.hid (HS2.out.later hB)
  clear HB2 HU2 HM2 HS2
  clear hB hu C0 q0
  go_wp2_with fail
  refine (CP.out _ HM3.out).mono ?_
  rintro e X4 ⟨pv, rfl, hst, hn, hB⟩
  have hone := strs_one hst
  have hnew := new_url X4
  have hB2 := below_trans hB (below_url X4 p pv)
  have HB4 := Lib.hid (below_trans HB3.out hB2)
  have HU4 := Lib.hid (HU3.out.later hB2)
  have HM4 := Lib.hid (HM3.out.later hB2)
  have HS4 := Lib.hid (HS3.out.later hB2)
  have HT4 := Lib.hid (hst.later (below_url X4 p pv))
  have HV4 := Lib.hid (hnew.row p pv)
  clear HB3 HU3 HM3 HS3 hst hn hB hB2
  have hu0 := HU4.out
  go_wp2_with (first | ((with_reducible refine wp_store27 (o := ⟨none, .store 27 (.tmp 8) (.tmp 35), _, _, _, _⟩) ?_ (.tmp 8) (.tmp 35) ?_ X4.heap.size ?_ p pv ?_ Hp8.out hone none1 (.slice none 0 0) rfl hnew ?_); (· rfl); (· rfl); (· rfl); (· rfl); simp only [Act.put, List.setIfInBounds_toArray, List.set_cons_zero, List.set_cons_succ]) | ((with_reducible refine wp_load27 (o := ⟨some 37, .load 27 (.tmp 3), _, _, _, _⟩) ?_ (.tmp 3) ?_ w.heap.size ?_ a1 v1 l1 hu0 ?_); (· rfl); (· rfl); (· rfl); simp only [Act.put, List.setIfInBounds_toArray, List.set_cons_zero, List.set_cons_succ]))
  clear hu0
  generalize (X4.alloc (.cells #[.string ⟨#[]⟩, .string ⟨#[]⟩, .string ⟨#[]⟩, .int .i64 0, .string ⟨#[]⟩, .int .i64 0, .int .i64 0, .int .i64 0, .int .i64 0, .int .i64 0, .int .i64 0, .int .i64 0, .int .i64 0, .int .i64 0, .int .i64 0, .slice none 0 0, .string ⟨#[]⟩, .string ⟨#[]⟩, .string ⟨#[]⟩, .bool false, .bool false] 27)).setRow X4.heap.size (cU p pv) = V4 at HB4 HU4 HM4 HS4 HT4 HV4 ⊢
  generalize X4.heap.size = g1 at HV4 ⊢
  clear hnew hone
  refine (CA.out _ HM4.out HS4.out).mono ?_
  rintro e X5 ⟨rfl, hB⟩
  have HB5 := Lib.hid (below_trans HB4.out hB)
  have HU5 := Lib.hid (HU4.out.later hB)
  have HM5 := Lib.hid (HM4.out.later hB)
  have HS5 := Lib.hid (HS4.out.later hB)
  have HV5 := Lib.hid (HV4.out.later hB)
  have HT5 := Lib.hid (HT4.out.later hB)
  clear HB4 HU4 HM4 HS4 HV4 HT4
  clear hB CA CP
  go_wp2_with fail
  refine (CQ.out _ HM5.out).mono ?_
  rintro e X6 ⟨qv, rfl, hst, hn, hB⟩
  have hone := strs_one hst
  have hnew := new_url X6
  have hB2 := below_trans hB (below_url X6 x qv)
  have HB6 := Lib.hid (below_trans HB5.out hB2)
  have HU6 := Lib.hid (HU5.out.later hB2)
  have HM6 := Lib.hid (HM5.out.later hB2)
  have HS6 := Lib.hid (HS5.out.later hB2)
  have HV6 := Lib.hid (HV5.out.later hB2)
  have HT6 := Lib.hid (HT5.out.later hB2)
  have HZ6 := Lib.hid (hst.later (below_url X6 x qv))
  have HY6 := Lib.hid (hnew.row x qv)
  clear HB5 HU5 HM5 HS5 HV5 HT5 hst hn hB hB2
  have hu0 := HY6.out
  go_wp2_with (first | ((with_reducible refine wp_store27 (o := ⟨none, .store 27 (.tmp 11) (.tmp 42), _, _, _, _⟩) ?_ (.tmp 11) (.tmp 42) ?_ X6.heap.size ?_ x qv ?_ Hx8.out hone none1 (.slice none 0 0) rfl hnew ?_); (· rfl); (· rfl); (· rfl); (· rfl); simp only [Act.put, List.setIfInBounds_toArray, List.set_cons_zero, List.set_cons_succ]) | ((with_reducible refine wp_load27 (o := ⟨some 45, .load 27 (.tmp 11), _, _, _, _⟩) ?_ (.tmp 11) ?_ X6.heap.size ?_ x qv Hx8.out hu0 ?_); (· rfl); (· rfl); (· rfl); simp only [Act.put, List.setIfInBounds_toArray, List.set_cons_zero, List.set_cons_succ]))
  clear hu0
  generalize (X6.alloc (.cells #[.string ⟨#[]⟩, .string ⟨#[]⟩, .string ⟨#[]⟩, .int .i64 0, .string ⟨#[]⟩, .int .i64 0, .int .i64 0, .int .i64 0, .int .i64 0, .int .i64 0, .int .i64 0, .int .i64 0, .int .i64 0, .int .i64 0, .int .i64 0, .slice none 0 0, .string ⟨#[]⟩, .string ⟨#[]⟩, .string ⟨#[]⟩, .bool false, .bool false] 27)).setRow X6.heap.size (cU x qv) = V6 at HB6 HU6 HM6 HS6 HV6 HT6 HZ6 HY6 ⊢
  generalize X6.heap.size = g2 at HY6 ⊢
  clear hnew hone
  refine (CR.out qv _ HM6.out HZ6.out).mono ?_
  rintro e X7 ⟨rfl, hB⟩
  have HB7 := Lib.hid (below_trans HB6.out hB)
  have HU7 := Lib.hid (HU6.out.later hB)
  have HM7 := Lib.hid (HM6.out.later hB)
  have HS7 := Lib.hid (HS6.out.later hB)
  have HV7 := Lib.hid (HV6.out.later hB)
  have HT7 := Lib.hid (HT6.out.later hB)
  have HY7 := Lib.hid (HY6.out.later hB)
  have HZ7 := Lib.hid (HZ6.out.later hB)
  clear HB6 HU6 HM6 HS6 HV6 HT6 HY6 HZ6
  clear hB CR CQ
  go_wp2_with fail
  refine (CT.out _ HM7.out).mono ?_
  rintro e X8 ⟨rv, rfl, hst, hn, hB⟩
  clear CT
  have qe : S.toList.isEmpty = !b := HE.out
  clear HE
  cases b
  · cases c
    · clear HA HC
      have hone := strs_one hst
      have hnew := new_url X8
      have hB2 := below_trans hB (below_url X8 y rv)
      have HB8 := Lib.hid (below_trans HB7.out hB2)
      have HU8 := Lib.hid (HU7.out.later hB2)
      have HM8 := Lib.hid (HM7.out.later hB2)
      have HS8 := Lib.hid (HS7.out.later hB2)
      have HV8 := Lib.hid (HV7.out.later hB2)
      have HT8 := Lib.hid (HT7.out.later hB2)
      have HY8 := Lib.hid (HY7.out.later hB2)
      have HZ8 := Lib.hid (HZ7.out.later hB2)
      have HJ8 := Lib.hid (hst.later (below_url X8 y rv))
      have HI8 := Lib.hid (hnew.row y rv)
      clear HB7 HU7 HM7 HS7 HV7 HT7 HY7 HZ7 hst hn hB hB2
      go_wp2_with ((with_reducible refine wp_store27 (o := ⟨none, .store 27 (.tmp 13) (.tmp 48), _, _, _, _⟩) ?_ (.tmp 13) (.tmp 48) ?_ X8.heap.size ?_ y rv ?_ Hy8.out hone none1 (.slice none 0 0) rfl hnew ?_); (· rfl); (· rfl); (· rfl); (· rfl); simp only [Act.put, List.setIfInBounds_toArray, List.set_cons_zero, List.set_cons_succ])
      generalize (X8.alloc (.cells #[.string ⟨#[]⟩, .string ⟨#[]⟩, .string ⟨#[]⟩, .int .i64 0, .string ⟨#[]⟩, .int .i64 0, .int .i64 0, .int .i64 0, .int .i64 0, .int .i64 0, .int .i64 0, .int .i64 0, .int .i64 0, .int .i64 0, .int .i64 0, .slice none 0 0, .string ⟨#[]⟩, .string ⟨#[]⟩, .string ⟨#[]⟩, .bool false, .bool false] 27)).setRow X8.heap.size (cU y rv) = V8 at HB8 HU8 HM8 HS8 HV8 HT8 HY8 HZ8 HJ8 HI8 ⊢
      generalize X8.heap.size = g3 at HI8 ⊢
      clear hnew hone
      go_ret
      exact ⟨rfl, HX.out.trans (HB8.out.mono HX.out.size)⟩
    · obtain ⟨rfl, rfl⟩ := HC.out rfl
      have CD := Lib.hid (fun z hx hy => same_any y y qv rv Hx8.out Hx8.out true ((same_iff _ _).2 rfl) z hx hy)
      clear HA HC
      have hone := strs_one hst
      have hnew := new_url X8
      have hB2 := below_trans hB (below_url X8 y rv)
      have HB8 := Lib.hid (below_trans HB7.out hB2)
      have HU8 := Lib.hid (HU7.out.later hB2)
      have HM8 := Lib.hid (HM7.out.later hB2)
      have HS8 := Lib.hid (HS7.out.later hB2)
      have HV8 := Lib.hid (HV7.out.later hB2)
      have HT8 := Lib.hid (HT7.out.later hB2)
      have HY8 := Lib.hid (HY7.out.later hB2)
      have HZ8 := Lib.hid (HZ7.out.later hB2)
      have HJ8 := Lib.hid (hst.later (below_url X8 y rv))
      have HI8 := Lib.hid (hnew.row y rv)
      clear HB7 HU7 HM7 HS7 HV7 HT7 HY7 HZ7 hst hn hB hB2
      have hu0 := HY8.out
      have hu1 := HI8.out
      go_wp2_with (first | ((with_reducible refine wp_store27 (o := ⟨none, .store 27 (.tmp 13) (.tmp 48), _, _, _, _⟩) ?_ (.tmp 13) (.tmp 48) ?_ X8.heap.size ?_ y rv ?_ Hx8.out hone none1 (.slice none 0 0) rfl hnew ?_); (· rfl); (· rfl); (· rfl); (· rfl); simp only [Act.put, List.setIfInBounds_toArray, List.set_cons_zero, List.set_cons_succ]) | ((with_reducible refine wp_load27 (o := ⟨some 72, .load 27 (.tmp 11), _, _, _, _⟩) ?_ (.tmp 11) ?_ g2 ?_ y qv Hx8.out hu0 ?_); (· rfl); (· rfl); (· rfl); simp only [Act.put, List.setIfInBounds_toArray, List.set_cons_zero, List.set_cons_succ]) | ((with_reducible refine wp_load27 (o := ⟨some 73, .load 27 (.tmp 13), _, _, _, _⟩) ?_ (.tmp 13) ?_ X8.heap.size ?_ y rv Hx8.out hu1 ?_); (· rfl); (· rfl); (· rfl); simp only [Act.put, List.setIfInBounds_toArray, List.set_cons_zero, List.set_cons_succ]))
      clear hu0 hu1
      generalize (X8.alloc (.cells #[.string ⟨#[]⟩, .string ⟨#[]⟩, .string ⟨#[]⟩, .int .i64 0, .string ⟨#[]⟩, .int .i64 0, .int .i64 0, .int .i64 0, .int .i64 0, .int .i64 0, .int .i64 0, .int .i64 0, .int .i64 0, .int .i64 0, .int .i64 0, .slice none 0 0, .string ⟨#[]⟩, .string ⟨#[]⟩, .string ⟨#[]⟩, .bool false, .bool false] 27)).setRow X8.heap.size (cU y rv) = V8 at HB8 HU8 HM8 HS8 HV8 HT8 HY8 HZ8 HJ8 HI8 ⊢
      generalize X8.heap.size = g3 at HI8 ⊢
      clear hnew hone
      refine (CD.out _ HZ8.out HJ8.out).mono ?_
      rintro e X10 ⟨rfl, hB⟩
      have HB9 := Lib.hid (below_trans HB8.out hB)
      have HU9 := Lib.hid (HU8.out.later hB)
      have HM9 := Lib.hid (HM8.out.later hB)
      have HS9 := Lib.hid (HS8.out.later hB)
      have HV9 := Lib.hid (HV8.out.later hB)
      have HT9 := Lib.hid (HT8.out.later hB)
      have HY9 := Lib.hid (HY8.out.later hB)
      have HZ9 := Lib.hid (HZ8.out.later hB)
      have HI9 := Lib.hid (HI8.out.later hB)
      have HJ9 := Lib.hid (HJ8.out.later hB)
      clear HB8 HU8 HM8 HS8 HV8 HT8 HY8 HZ8 HI8 HJ8
      clear hB CD
      go_wp2
      go_ret
      exact ⟨rfl, HX.out.trans (HB9.out.mono HX.out.size)⟩
  · cases c
    · obtain rfl := HA.out rfl
      have CS := Lib.hid (fun z hx hy => same_any p p v1 pv l1 l1 true ((same_iff _ _).2 rfl) z hx hy)
      clear HA HC
      have hone := strs_one hst
      have hnew := new_url X8
      have hB2 := below_trans hB (below_url X8 y rv)
      have HB8 := Lib.hid (below_trans HB7.out hB2)
      have HU8 := Lib.hid (HU7.out.later hB2)
      have HM8 := Lib.hid (HM7.out.later hB2)
      have HS8 := Lib.hid (HS7.out.later hB2)
      have HV8 := Lib.hid (HV7.out.later hB2)
      have HT8 := Lib.hid (HT7.out.later hB2)
      have HY8 := Lib.hid (HY7.out.later hB2)
      have HZ8 := Lib.hid (HZ7.out.later hB2)
      have HJ8 := Lib.hid (hst.later (below_url X8 y rv))
      have HI8 := Lib.hid (hnew.row y rv)
      clear HB7 HU7 HM7 HS7 HV7 HT7 HY7 HZ7 hst hn hB hB2
      have hu0 := HU8.out
      have hu1 := HV8.out
      go_wp2_with (first | ((with_reducible refine wp_store27 (o := ⟨none, .store 27 (.tmp 13) (.tmp 48), _, _, _, _⟩) ?_ (.tmp 13) (.tmp 48) ?_ X8.heap.size ?_ y rv ?_ Hy8.out hone none1 (.slice none 0 0) rfl hnew ?_); (· rfl); (· rfl); (· rfl); (· rfl); simp only [Act.put, List.setIfInBounds_toArray, List.set_cons_zero, List.set_cons_succ]) | ((with_reducible refine wp_load27 (o := ⟨some 60, .load 27 (.tmp 3), _, _, _, _⟩) ?_ (.tmp 3) ?_ w.heap.size ?_ p v1 l1 hu0 ?_); (· rfl); (· rfl); (· rfl); simp only [Act.put, List.setIfInBounds_toArray, List.set_cons_zero, List.set_cons_succ]) | ((with_reducible refine wp_load27 (o := ⟨some 61, .load 27 (.tmp 8), _, _, _, _⟩) ?_ (.tmp 8) ?_ g1 ?_ p pv l1 hu1 ?_); (· rfl); (· rfl); (· rfl); simp only [Act.put, List.setIfInBounds_toArray, List.set_cons_zero, List.set_cons_succ]))
      clear hu0 hu1
      generalize (X8.alloc (.cells #[.string ⟨#[]⟩, .string ⟨#[]⟩, .string ⟨#[]⟩, .int .i64 0, .string ⟨#[]⟩, .int .i64 0, .int .i64 0, .int .i64 0, .int .i64 0, .int .i64 0, .int .i64 0, .int .i64 0, .int .i64 0, .int .i64 0, .int .i64 0, .slice none 0 0, .string ⟨#[]⟩, .string ⟨#[]⟩, .string ⟨#[]⟩, .bool false, .bool false] 27)).setRow X8.heap.size (cU y rv) = V8 at HB8 HU8 HM8 HS8 HV8 HT8 HY8 HZ8 HJ8 HI8 ⊢
      generalize X8.heap.size = g3 at HI8 ⊢
      clear hnew hone
      refine (CS.out _ HS8.out HT8.out).mono ?_
      rintro e X9 ⟨rfl, hB⟩
      have HB9 := Lib.hid (below_trans HB8.out hB)
      have HU9 := Lib.hid (HU8.out.later hB)
      have HM9 := Lib.hid (HM8.out.later hB)
      have HS9 := Lib.hid (HS8.out.later hB)
      have HV9 := Lib.hid (HV8.out.later hB)
      have HT9 := Lib.hid (HT8.out.later hB)
      have HY9 := Lib.hid (HY8.out.later hB)
      have HZ9 := Lib.hid (HZ8.out.later hB)
      have HI9 := Lib.hid (HI8.out.later hB)
      have HJ9 := Lib.hid (HJ8.out.later hB)
      clear HB8 HU8 HM8 HS8 HV8 HT8 HY8 HZ8 HI8 HJ8
      clear hB CS
      go_wp2
      go_ret
      exact ⟨rfl, HX.out.trans (HB9.out.mono HX.out.size)⟩
    · obtain rfl := HA.out rfl
      have CS := Lib.hid (fun z hx hy => same_any p p v1 pv l1 l1 true ((same_iff _ _).2 rfl) z hx hy)
      obtain ⟨rfl, rfl⟩ := HC.out rfl
      have CD := Lib.hid (fun z hx hy => same_any y y qv rv Hx8.out Hx8.out true ((same_iff _ _).2 rfl) z hx hy)
      clear HA HC
      have hone := strs_one hst
      have hnew := new_url X8
      have hB2 := below_trans hB (below_url X8 y rv)
      have HB8 := Lib.hid (below_trans HB7.out hB2)
      have HU8 := Lib.hid (HU7.out.later hB2)
      have HM8 := Lib.hid (HM7.out.later hB2)
      have HS8 := Lib.hid (HS7.out.later hB2)
      have HV8 := Lib.hid (HV7.out.later hB2)
      have HT8 := Lib.hid (HT7.out.later hB2)
      have HY8 := Lib.hid (HY7.out.later hB2)
      have HZ8 := Lib.hid (HZ7.out.later hB2)
      have HJ8 := Lib.hid (hst.later (below_url X8 y rv))
      have HI8 := Lib.hid (hnew.row y rv)
      clear HB7 HU7 HM7 HS7 HV7 HT7 HY7 HZ7 hst hn hB hB2
      have hu0 := HU8.out
      have hu1 := HV8.out
      go_wp2_with (first | ((with_reducible refine wp_store27 (o := ⟨none, .store 27 (.tmp 13) (.tmp 48), _, _, _, _⟩) ?_ (.tmp 13) (.tmp 48) ?_ X8.heap.size ?_ y rv ?_ Hx8.out hone none1 (.slice none 0 0) rfl hnew ?_); (· rfl); (· rfl); (· rfl); (· rfl); simp only [Act.put, List.setIfInBounds_toArray, List.set_cons_zero, List.set_cons_succ]) | ((with_reducible refine wp_load27 (o := ⟨some 60, .load 27 (.tmp 3), _, _, _, _⟩) ?_ (.tmp 3) ?_ w.heap.size ?_ p v1 l1 hu0 ?_); (· rfl); (· rfl); (· rfl); simp only [Act.put, List.setIfInBounds_toArray, List.set_cons_zero, List.set_cons_succ]) | ((with_reducible refine wp_load27 (o := ⟨some 61, .load 27 (.tmp 8), _, _, _, _⟩) ?_ (.tmp 8) ?_ g1 ?_ p pv l1 hu1 ?_); (· rfl); (· rfl); (· rfl); simp only [Act.put, List.setIfInBounds_toArray, List.set_cons_zero, List.set_cons_succ]))
      clear hu0 hu1
      generalize (X8.alloc (.cells #[.string ⟨#[]⟩, .string ⟨#[]⟩, .string ⟨#[]⟩, .int .i64 0, .string ⟨#[]⟩, .int .i64 0, .int .i64 0, .int .i64 0, .int .i64 0, .int .i64 0, .int .i64 0, .int .i64 0, .int .i64 0, .int .i64 0, .int .i64 0, .slice none 0 0, .string ⟨#[]⟩, .string ⟨#[]⟩, .string ⟨#[]⟩, .bool false, .bool false] 27)).setRow X8.heap.size (cU y rv) = V8 at HB8 HU8 HM8 HS8 HV8 HT8 HY8 HZ8 HJ8 HI8 ⊢
      generalize X8.heap.size = g3 at HI8 ⊢
      clear hnew hone
      refine (CS.out _ HS8.out HT8.out).mono ?_
      rintro e X9 ⟨rfl, hB⟩
      have HB9 := Lib.hid (below_trans HB8.out hB)
      have HU9 := Lib.hid (HU8.out.later hB)
      have HM9 := Lib.hid (HM8.out.later hB)
      have HS9 := Lib.hid (HS8.out.later hB)
      have HV9 := Lib.hid (HV8.out.later hB)
      have HT9 := Lib.hid (HT8.out.later hB)
      have HY9 := Lib.hid (HY8.out.later hB)
      have HZ9 := Lib.hid (HZ8.out.later hB)
      have HI9 := Lib.hid (HI8.out.later hB)
      have HJ9 := Lib.hid (HJ8.out.later hB)
      clear HB8 HU8 HM8 HS8 HV8 HT8 HY8 HZ8 HI8 HJ8
      clear hB CS
      have hu := HY9.out
      have hv := HI9.out
      go_wp2_with (first | ((with_reducible refine wp_load27 (o := ⟨some 72, .load 27 (.tmp 11), _, _, _, _⟩) ?_ (.tmp 11) ?_ g2 ?_ y qv Hx8.out hu ?_); (· rfl); (· rfl); (· rfl); simp only [Act.put, List.setIfInBounds_toArray, List.set_cons_zero, List.set_cons_succ]) | ((with_reducible refine wp_load27 (o := ⟨some 73, .load 27 (.tmp 13), _, _, _, _⟩) ?_ (.tmp 13) ?_ g3 ?_ y rv Hx8.out hv ?_); (· rfl); (· rfl); (· rfl); simp only [Act.put, List.setIfInBounds_toArray, List.set_cons_zero, List.set_cons_succ]))
      refine (CD.out _ HZ9.out HJ9.out).mono ?_
      rintro e X10 ⟨rfl, hB⟩
      have HB10 := Lib.hid (below_trans HB9.out hB)
      have HU10 := Lib.hid (HU9.out.later hB)
      have HM10 := Lib.hid (HM9.out.later hB)
      have HS10 := Lib.hid (HS9.out.later hB)
      have HV10 := Lib.hid (HV9.out.later hB)
      have HT10 := Lib.hid (HT9.out.later hB)
      have HY10 := Lib.hid (HY9.out.later hB)
      have HZ10 := Lib.hid (HZ9.out.later hB)
      have HI10 := Lib.hid (HI9.out.later hB)
      have HJ10 := Lib.hid (HJ9.out.later hB)
      clear HB9 HU9 HM9 HS9 HV9 HT9 HY9 HZ9 HI9 HJ9
      clear hB CD hu hv
      go_wp2
      go_ret
      exact ⟨rfl, HX.out.trans (HB10.out.mono HX.out.size)⟩

/-! ### The row's step -/
theorem reads (os : Os) {H : Type} (enc : TypeId × Value → H) : (DataW.whole enc Tryz.prog ((Card.laidWorld os).forCall (fun _ _ => 0) ⟨#[], #[.string ByteArray.empty, .agg #[.string ByteArray.empty, .string ByteArray.empty, .string ByteArray.empty, .int .i64 0, .string ByteArray.empty, .int .i64 0, .int .i64 0, .int .i64 0, .int .i64 0, .int .i64 0, .int .i64 0, .int .i64 0, .int .i64 0, .int .i64 0, .int .i64 0, .slice none 0 0, .string ByteArray.empty, .string ByteArray.empty, .string ByteArray.empty, .bool false, .bool false]], []⟩).memory Tryz.f5.params.toList Rows.showBackSpec.vars false (#[.string ByteArray.empty, .agg #[.string ByteArray.empty, .string ByteArray.empty, .string ByteArray.empty, .int .i64 0, .string ByteArray.empty, .int .i64 0, .int .i64 0, .int .i64 0, .int .i64 0, .int .i64 0, .int .i64 0, .int .i64 0, .int .i64 0, .int .i64 0, .int .i64 0, .slice none 0 0, .string ByteArray.empty, .string ByteArray.empty, .string ByteArray.empty, .bool false, .bool false]] : Array Value).toList 8).map (fun x => (x.1, x.2.1)) = some ([.lit (.string []), .agg [.lit (.string []), .lit (.string []), .lit (.string []), .agg [.lit (.int .i64 0), .lit (.string []), .lit (.int .i64 0), .agg [.lit (.int .i64 0), .lit (.int .i64 0), .lit (.int .i64 0), .lit (.int .i64 0), .lit (.int .i64 0), .lit (.int .i64 0), .lit (.int .i64 0), .lit (.int .i64 0)]], .lit (.int .i64 0), .nil, .lit (.string []), .lit (.string []), .lit (.string []), .lit (.bool false), .lit (.bool false)]], []) := by kernel_rfl
set_option maxRecDepth 100000 in
theorem lifted (os : Os) (started : os.Started) (H : Type) (enc : TypeId × Value → H) (F : Stop.Interp) :
    ReturnsInHanded {} Tryz.checked os 5 .any ((OpenSpec.ofChange Rows.showBackSpec).preRow enc Tryz.prog Tryz.f5 Rows.showBackRow.domain false Rows.showBackRow.laid) (((OpenSpec.ofChange Rows.showBackSpec).at F).post enc Tryz.prog Tryz.f5 false true false false) := by
  obtain ⟨⟨x1, x2, x3⟩, hx, hx1⟩ := Option.map_eq_some_iff.1 (reads os enc)
  simp only [Prod.mk.injEq] at hx1
  obtain ⟨rfl, rfl⟩ := hx1
  refine returnsInHanded_of_row (C := Tryz.checked) (s := OpenSpec.ofChange Rows.showBackSpec) own started (by kernel_rfl) Tryz.func5
    (witness_row_at (enc := enc) (C := Tryz.checked) false (Card.laidWorld os) #[.string ByteArray.empty, .agg #[.string ByteArray.empty, .string ByteArray.empty, .string ByteArray.empty, .int .i64 0, .string ByteArray.empty, .int .i64 0, .int .i64 0, .int .i64 0, .int .i64 0, .int .i64 0, .int .i64 0, .int .i64 0, .int .i64 0, .int .i64 0, .int .i64 0, .slice none 0 0, .string ByteArray.empty, .string ByteArray.empty, .string ByteArray.empty, .bool false, .bool false]] rfl (by kernel_rfl) (by kernel_rfl) (by kernel_rfl)
      (OpenSpec.preRow_of_cond 8 hx (by kernel_rfl) (fun k hk => by cases hk) (by kernel_rfl) (Card.laid_met os _))) ?_
  intro W base args ds gs before hval0 hW _ _ _ hL hsh _
  obtain ⟨m, hmax⟩ := Card.maxLen_int hsh
  have hm : Six.At m W := ⟨hmax, Six.tab_of hL⟩
  have hval : ∀ (j : Nat) t v, Tryz.f5.params[j]? = some t → args[j]? = some v → Value.okWide Tryz.prog W .any base t v := hval0
  have hW' := hW
  obtain ⟨p, q, hA0, hV, rfl, hfz, hnd⟩ := hW
  have hA : DataW.TrodAll enc Tryz.prog W 0 (fun _ => true) true Tryz.f5.params.toList args.toList ds p := hA0
  rw [Tryz.params5] at hA hval
  obtain ⟨v0, vs0, d0, ds0, p0, q0, hargs0, rfl, rfl, t0, r0⟩ := trodAll_cons hA
  obtain ⟨v1, vs1, d1, ds1, p1, q1, hargs1, rfl, rfl, t1, r1⟩ := trodAll_cons r0
  obtain ⟨rfl, rfl, rfl⟩ := trodAll_nil r1
  obtain rfl : args = #[v0, v1] := by cases args; simp_all
  obtain ⟨rfl, rfl⟩ := trodVars_none hV
  obtain ⟨a0, rfl, rfl, rfl, w0⟩ := open_string Tryz.underlying9 (hval 0 9 v0 rfl rfl) t0
  have k1 := t1
  have lt1 : ∀ x ∈ p1, x.block < W.heap.size := by obtain ⟨m, hm⟩ := k1; exact DataW.trod_lt m _ _ _ hm
  obtain ⟨a1, pv1, l1, rfl, z1, w1⟩ := Url.open_url (hval 1 27 v1 rfl rfl) t1
  clear hA0 hval0
  simp only [List.append_nil] at hW'
  refine (walk a0 a1 pv1 l1 w0 m W hm z1 w1).mono fun e W' ⟨he, bel⟩ => ?_
  subst he
  exact ⟨_, rfl, _, _, _, [], _, [], hW', trodAll_mk1 (shut_bool Tryz.underlying4 _), (trodAll_cons_mk (shut_string Tryz.underlying9 w0) (trodAll_cons_mk (Below.trod laidOut (by kernel_rfl) (of_decide_eq_true (by kernel_rfl)) k1 bel lt1) trodAll_mk0)), rfl, bel.frame _, fun h => by cases h⟩

theorem said : Rows.showBackRow.holds Tryz.pinned (OpenSpec.ofChange Rows.showBackSpec) :=
  OpenClaim.holds_of_cond 5 Tryz.f5 rfl rfl rfl rfl rfl rfl rfl ⟨rfl, rfl, rfl, rfl, rfl⟩ rfl rfl rfl rfl rfl (by kernel_rfl) Tryz.func5 (by kernel_rfl)
    (of_decide_eq_true (by kernel_rfl)) (by unfold Func.isWrapper; first | (rw [if_pos (by decide +kernel)]; kernel_rfl) | (rw [if_neg (by decide +kernel)]; exact ⟨rfl, rfl⟩))
    (fun os started H enc _ F => by rw [OpenClaim.pre_eq_preRow]; exact lifted os started H enc F)

/-- No parameter wants a stand-in; the program's own looks are on. -/
theorem plain (f : FuncId) (fn : Func) (hf : Tryz.pinned.checked.prog.funcNamed Rows.showBackRow.func = some f) (hfn : Tryz.pinned.checked.prog.funcs[f]? = some fn) :
    true = Tryz.pinned.checked.prog.looks [] ∧ ∀ (j : Nat) t, fn.params[j]? = some t → Tryz.pinned.checked.prog.wantsStandIn t = false := by
  obtain rfl : f = 5 := Option.some.inj ((show Tryz.prog.funcNamed Rows.showBackRow.func = some 5 by kernel_rfl).symm.trans hf) |>.symm
  obtain rfl : fn = Tryz.f5 := (Option.some.inj (Tryz.func5.symm.trans hfn)).symm
  refine ⟨by kernel_rfl, fun j t ht => ?_⟩
  rw [Tryz.params5] at ht
  obtain rfl | rfl : t = 9 ∨ t = 27 := by simpa using Array.mem_of_getElem? ht
  · exact (show Tryz.prog.wantsStandIn 9 = false by kernel_rfl)
  · exact (show Tryz.prog.wantsStandIn 27 = false by kernel_rfl)

/-- The statement: the card. -/
theorem proved : Rows.ShowBackCardSaid :=
  Claim7.holds_tied_plain_at .later [] _ _ _ _ said (fun _ h => by cases h) (by kernel_rfl) (fun _ h => by cases h) showBack_row_tie rfl ⟨rfl, rfl⟩ (by kernel_rfl) rfl plain (by kernel_rfl)
#print axioms proved
end Go.Proofs.YtkjkcgbmfglihaaGreatDoor.showBack
