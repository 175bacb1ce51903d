/-
  WHAT IS PROVED: the card of JoinQuery: of any address of the web whose parts are few and short, and any text of at most 100 bytes: a question mark, and the text as a query, beside it change its query alone, and take its fragment; one slash tells the top.
  CONDITIONS: none but the card's own: the listed tables read as their texts lay them; the address and the text are any.
-/
import Derived.Test.YtkhjhiofgoampaaGreatDoorCards
import Derived.Test.YtkhjhiofgoampaaGreatDoorTie
import Derived.WalkKit
import Derived.ProofKit
import Derived.OpenShut
import Derived.ShutString
import Derived.ChangeOld
import Derived.Below
import Derived.Deep.RegionHeld
import Derived.Laws.AppendOwnNone
import Derived.Test.YtkhjhiofgoampaaGreatDoorJAwake
import Derived.Test.YtkhjhiofgoampaaGreatDoorLaid
import Derived.Test.YtkhjhiofgoampaaGreatDoorHOpen
namespace Go.Proofs.YtkhjhiofgoampaaGreatDoor.joinQuery
open Go.ChangeShapes Go.WideShapes Go.ChangeAt Go.RowKit
open Go.ChangeMaps (open_string shut_string)
open Go.Shelf
open Go.Proofs.YtkhjhiofgoampaaGreatDoor.Url
open Go.Proofs.YtkhjhiofgoampaaGreatDoor.Host (H)
open Go.Proofs.YtkhjhiofgoampaaGreatDoor.Path (Strs)
set_option linter.unusedSimpArgs false
set_option linter.unusedVariables false

theorem own : ownKnob Tryz.prog.godebug = none := by kernel_rfl
theorem laidOut : laidOutB Tryz.prog = true := by kernel_rfl

open Go.Proofs.YtkhjhiofgoampaaGreatDoor.Show
open Go.Proofs.YtkhjhiofgoampaaGreatDoor.Join
theorem few_path {u : U} (h : fewU u = true) : u.path.length ≤ 60 ∧ ∀ t ∈ u.path, t.length ≤ 300 := by
  unfold fewU at h
  rw [Bool.and_eq_true] at h
  exact (Path.few_iff _).1 h.1
theorem few_sch {u : U} (h : fewU u = true) : u.sch.length ≤ 300 := by
  unfold fewU at h
  simp only [Bool.and_eq_true, le3_iff] at h
  exact h.2.1
set_option maxRecDepth 100000
set_option maxHeartbeats 16000000 in
theorem walk (a0 : U) (v0 : Value) (l0 : a0.h.p.length = 8) (a1 : ByteArray) (w1 : a1.size ≤ maxLen) (m : Int) (w : World) (hm : Six.At m w) (s0 : Path.Strs w v0 a0.path) (w0 : (Lit.int .i64 a0.port).wf = true) :
    Calls Tryz.prog 7 #[.agg (cU a0 v0), .string a1] w fun e w' => e = .returned (.bool true) ∧ Below w.heap.size w w' := by
  have b1 : Below w.heap.size w (w.alloc (.cells (cU a0 v0) 27)) := (Below.refl w.heap.size w).alloc (Nat.le_refl _) _
  have HX := Lib.hid b1
  have HU0 := Lib.hid (UrlAt.new w a0 v0)
  have HM0 := Lib.hid (hm.later HX.out)
  have HS0 := Lib.hid (s0.later HX.out)
  clear hm b1 s0
  go_enter Tryz.func7, Tryz.ntmps7
  go_wp2_with fail
  generalize (w.alloc (.cells (cU a0 v0) 27)) = X0 at HX HM0 HU0 HS0 ⊢
  refine (Join.awake_calls m X0 HM0.out).mono ?_
  rintro e X1 ⟨rfl, hB⟩
  have HB1 := Lib.hid (hB)
  have HU1 := Lib.hid (HU0.out.later hB)
  have HM1 := Lib.hid (HM0.out.later hB)
  have HS1 := Lib.hid (HS0.out.later hB)
  clear HU0 HM0 HS0
  clear hB
  obtain ⟨f0, hf0⟩ : ∃ b, fewU a0 = b := ⟨_, rfl⟩
  have hu := HU1.out
  go_wp2_with ((with_reducible refine wp_load27 (o := ⟨some 14, .load 27 (.tmp 2), _, _, _, _⟩) ?_ (.tmp 2) ?_ w.heap.size ?_ a0 v0 l0 hu ?_); (· rfl); (· rfl); (· rfl); simp only [Act.put, List.setIfInBounds_toArray, List.set_cons_zero, List.set_cons_succ])
  refine (few_any a0 v0 l0 f0 hf0 _ HS1.out).mono ?_
  rintro e X2 ⟨rfl, hB⟩
  have HB2 := Lib.hid (below_trans HB1.out hB)
  have HU2 := Lib.hid (HU1.out.later hB)
  have HM2 := Lib.hid (HM1.out.later hB)
  have HS2 := Lib.hid (HS1.out.later hB)
  clear HB1 HU1 HM1 HS1
  clear hB hu
  cases f0
  · go_wp2
    go_ret
    exact ⟨rfl, HX.out.trans (HB2.out.mono HX.out.size)⟩
  obtain ⟨big, hbig⟩ : ∃ b, decide (100 < a1.size) = b := ⟨_, rfl⟩
  have hbig' : decide ((100 : Int) < (a1.size : Int)) = big := by rw [← hbig]; exact decide_eq_decide.2 (by omega)
  cases big
  · have hs : a1.size ≤ 100 := by have := of_decide_eq_false hbig; omega
    have HBg := Lib.hid hbig'
    have HBh := Lib.hid hbig
    have F0 := few_fit a0 l0 hf0
    have P0 := few_path hf0
    have HF := Lib.hid F0
    obtain ⟨b, hb⟩ : ∃ b, mayU a0 = b := ⟨_, rfl⟩
    obtain ⟨z, hz⟩ : ∃ z, webI a0.sch = z := ⟨_, rfl⟩
    obtain ⟨N, hN⟩ : ∃ n, tb a0.sch = n := ⟨_, rfl⟩
    have hsc : a0.sch.length ≤ 1000 := by have := few_sch hf0; omega
    have CA := Lib.hid (fun x hx hy => may_any a0 v0 F0 b hb m x hx hy)
    have CZ := Lib.hid (fun x => web_any N z (by rw [list_tb hN]; exact hz) x)
    obtain ⟨D, hD⟩ : ∃ d, (⟨#[63]⟩ : ByteArray) ++ a1 = d := ⟨_, rfl⟩
    have hDl : D.data.toList = 63 :: a1.data.toList := by rw [← hD]; simp
    have hD1 : D.size ≤ 21000 := by rw [← size_list, hDl, List.length_cons, size_list]; omega
    have HW0 := Lib.hid (show b = true → z ≠ 0 → ∃ Q FF hf, Q.length ≤ 1000000 ∧ FF.length ≤ 1000000 ∧ okR a0 D.data.toList = true ∧ resR a0 D.data.toList = { a0 with qry := Q, hq := true, frg := FF, hf := hf } from fun h k => by
      obtain ⟨q', hl, h1, h2⟩ := res_query (hb.trans h) (fun e => k (hz.symm.trans e)) a1.data.toList
      rw [← hDl] at h1 h2
      rw [size_list] at hl
      refine ⟨_, _, _, ?_, ?_, h1, h2⟩
      · have e1 := enc_le 2 (tQ q') 101 (by have h3 := aft_len 63 (bef 35 q'); have h4 := bef_len 35 q'; show (aft 63 (bef 35 q')).length ≤ 101; omega)
        omega
      · have e1 := enc_le 1 (tF q') 101 (by have h3 := aft_len 35 q'; show (aft 35 q').length ≤ 101; omega)
        omega)
    have HT0 := Lib.hid (show b = true → z ≠ 0 → okR a0 [47] = true ∧ resR a0 [47] = { a0 with path := [[]], qry := [], hq := false, frg := [], hf := false } from fun h k => res_top (hb.trans h) (fun e => k (hz.symm.trans e)))
    have HRs := Lib.hid (fun (r : Bool) (x : U) h1 h2 y hm hs => resolve_any a0 v0 F0 (by have := P0.1; omega) hsc D hD1 r h1 x h2 m y hm hs)
    have HRt := Lib.hid (fun (r : Bool) (x : U) h1 h2 y hm hs => resolve_any a0 v0 F0 (by have := P0.1; omega) hsc ⟨#[47]⟩ (by decide) r h1 x h2 m y hm hs)
    have CB := Lib.hid (fun y hs => Show.bare_any a0 v0 F0 y hs)
    have HDD := Lib.hid hD
    have HNN := Lib.hid hN
    have HSz := Lib.hid hs
    clear hbig hbig' hs hf0 F0 P0 hb hz hN hsc hD hDl hD1
    have hu := HU2.out
    have hbg := HBg.out
    have hbh := HBh.out
    go_wp2_with ((with_reducible refine wp_load27 (o := ⟨some 28, .load 27 (.tmp 2), _, _, _, _⟩) ?_ (.tmp 2) ?_ w.heap.size ?_ a0 v0 l0 hu ?_); (· rfl); (· rfl); (· rfl); simp only [Act.put, List.setIfInBounds_toArray, List.set_cons_zero, List.set_cons_succ])
    refine (CA.out _ HM2.out HS2.out).mono ?_
    rintro e X3 ⟨rfl, hB⟩
    have HB3 := Lib.hid (below_trans HB2.out hB)
    have HU3 := Lib.hid (HU2.out.later hB)
    have HM3 := Lib.hid (HM2.out.later hB)
    have HS3 := Lib.hid (HS2.out.later hB)
    clear HB2 HU2 HM2 HS2
    clear hB hu CA
    cases b
    · go_wp2
      go_ret
      exact ⟨rfl, HX.out.trans (HB3.out.mono HX.out.size)⟩
    have c0 := HU3.out.cell 0
    rw [(cU_at a0 v0 l0).1, HNN.out] at c0
    go_wp2_with fail
    refine (CZ.out _).mono ?_
    rintro e X ⟨rfl, rfl⟩
    clear CZ c0 hbg hbh HBg HBh
    by_cases h0 : z = 0
    · subst h0
      go_wp2
      go_ret
      exact ⟨rfl, HX.out.trans (HB3.out.mono HX.out.size)⟩
    have q0 : (z == 0) = false := beq_eq_false_iff_ne.2 h0
    obtain ⟨Q, FF, hf, hQ, hFF, hr1, hr2⟩ := HW0.out (by first | rfl | trivial) h0
    obtain ⟨ht1, ht2⟩ := HT0.out (by first | rfl | trivial) h0
    obtain ⟨Y, hY⟩ : ∃ y, ({ a0 with qry := Q, hq := true, frg := FF, hf := hf } : U) = y := ⟨_, rfl⟩
    obtain ⟨Z, hZ⟩ : ∃ y, ({ a0 with path := [[]], qry := [], hq := false, frg := [], hf := false } : U) = y := ⟨_, rfl⟩
    rw [hY] at hr2
    rw [hZ] at ht2
    have CR := Lib.hid (fun y hm hs => HRs.out true Y hr1 hr2 y hm hs)
    have CT := Lib.hid (fun y hm hs => HRt.out true Z ht1 ht2 y hm hs)
    have HYY := Lib.hid hY
    have HZZ := Lib.hid hZ
    have LY := Lib.hid (show Y.h.p.length = 8 by rw [← hY]; exact l0)
    have LZ := Lib.hid (show Z.h.p.length = 8 by rw [← hZ]; exact l0)
    have hd := HDD.out
    have hsz := HSz.out
    clear HW0 HT0 HRs HRt hr1 hr2 ht1 ht2 hY hZ hQ hFF
    have hu := HU3.out
    go_wp2_with ((with_reducible refine wp_load27 (o := ⟨some 40, .load 27 (.tmp 2), _, _, _, _⟩) ?_ (.tmp 2) ?_ w.heap.size ?_ a0 v0 l0 hu ?_); (· rfl); (· rfl); (· rfl); simp only [Act.put, List.setIfInBounds_toArray, List.set_cons_zero, List.set_cons_succ])
    refine (CR.out _ HM3.out HS3.out).mono ?_
    rintro e X4 ⟨pv, rfl, hst, hn, hB⟩
    clear hu CR hsz
    have hone := strs_one hst
    have hnew := new_url X4
    have hB2 := below_trans hB (below_url X4 Y pv)
    have HB4 := Lib.hid (below_trans HB3.out hB2)
    have HU4 := Lib.hid (HU3.out.later hB2)
    have HM4 := Lib.hid (HM3.out.later hB2)
    have HS4 := Lib.hid (HS3.out.later hB2)
    have HP4 := Lib.hid (hst.later (below_url X4 Y pv))
    have HY4 := Lib.hid (hnew.row Y pv)
    clear HB3 HU3 HM3 HS3 hst hn hB hB2
    have hu0 := HU4.out
    go_wp2_with (first | ((with_reducible refine wp_store27 (o := ⟨none, .store 27 (.tmp 7) (.tmp 44), _, _, _, _⟩) ?_ (.tmp 7) (.tmp 44) ?_ X4.heap.size ?_ Y pv ?_ LY.out hone none1 (.slice none 0 0) rfl hnew ?_); (· rfl); (· rfl); (· rfl); (· rfl); simp only [Act.put, List.setIfInBounds_toArray, List.set_cons_zero, List.set_cons_succ]) | ((with_reducible refine wp_load27 (o := ⟨some 47, .load 27 (.tmp 2), _, _, _, _⟩) ?_ (.tmp 2) ?_ w.heap.size ?_ a0 v0 l0 hu0 ?_); (· rfl); (· rfl); (· rfl); simp only [Act.put, List.setIfInBounds_toArray, List.set_cons_zero, List.set_cons_succ]))
    clear hu0
    generalize (X4.alloc (.cells #[.string ⟨#[]⟩, .string ⟨#[]⟩, .string ⟨#[]⟩, .int .i64 0, .string ⟨#[]⟩, .int .i64 0, .int .i64 0, .int .i64 0, .int .i64 0, .int .i64 0, .int .i64 0, .int .i64 0, .int .i64 0, .int .i64 0, .int .i64 0, .slice none 0 0, .string ⟨#[]⟩, .string ⟨#[]⟩, .string ⟨#[]⟩, .bool false, .bool false] 27)).setRow X4.heap.size (cU Y pv) = V4 at HB4 HU4 HM4 HS4 HP4 HY4 ⊢
    generalize X4.heap.size = g1 at HY4 ⊢
    clear hnew hone
    refine (CT.out _ HM4.out HS4.out).mono ?_
    rintro e X5 ⟨qv, rfl, hst, hn, hB⟩
    clear CT hd
    have hone := strs_one hst
    have hnew := new_url X5
    have hB2 := below_trans hB (below_url X5 Z qv)
    have HB5 := Lib.hid (below_trans HB4.out hB2)
    have HU5 := Lib.hid (HU4.out.later hB2)
    have HM5 := Lib.hid (HM4.out.later hB2)
    have HS5 := Lib.hid (HS4.out.later hB2)
    have HY5 := Lib.hid (HY4.out.later hB2)
    have HP5 := Lib.hid (HP4.out.later hB2)
    have HQ5 := Lib.hid (hst.later (below_url X5 Z qv))
    have HZ5 := Lib.hid (hnew.row Z qv)
    clear HB4 HU4 HM4 HS4 HY4 HP4 hst hn hB hB2
    have hu0 := HU5.out
    go_wp2_with (first | ((with_reducible refine wp_store27 (o := ⟨none, .store 27 (.tmp 9) (.tmp 49), _, _, _, _⟩) ?_ (.tmp 9) (.tmp 49) ?_ X5.heap.size ?_ Z qv ?_ LZ.out hone none1 (.slice none 0 0) rfl hnew ?_); (· rfl); (· rfl); (· rfl); (· rfl); simp only [Act.put, List.setIfInBounds_toArray, List.set_cons_zero, List.set_cons_succ]) | ((with_reducible refine wp_load27 (o := ⟨some 51, .load 27 (.tmp 2), _, _, _, _⟩) ?_ (.tmp 2) ?_ w.heap.size ?_ a0 v0 l0 hu0 ?_); (· rfl); (· rfl); (· rfl); simp only [Act.put, List.setIfInBounds_toArray, List.set_cons_zero, List.set_cons_succ]))
    clear hu0
    generalize (X5.alloc (.cells #[.string ⟨#[]⟩, .string ⟨#[]⟩, .string ⟨#[]⟩, .int .i64 0, .string ⟨#[]⟩, .int .i64 0, .int .i64 0, .int .i64 0, .int .i64 0, .int .i64 0, .int .i64 0, .int .i64 0, .int .i64 0, .int .i64 0, .int .i64 0, .slice none 0 0, .string ⟨#[]⟩, .string ⟨#[]⟩, .string ⟨#[]⟩, .bool false, .bool false] 27)).setRow X5.heap.size (cU Z qv) = V5 at HB5 HU5 HM5 HS5 HY5 HP5 HQ5 HZ5 ⊢
    generalize X5.heap.size = g2 at HZ5 ⊢
    clear hnew hone
    refine (CB.out _ HS5.out).mono ?_
    rintro e X6 ⟨rv, rfl, hst, hn, hB⟩
    have LB : (bareU a0).h.p.length = 8 := l0
    clear CB
    
    have hone := strs_one hst
    have hnew := new_url X6
    have hB2 := below_trans hB (below_url X6 (bareU a0) rv)
    have hY6 := HY5.out.later hB
    have hZ6 := HZ5.out.later hB
    have A1 := Lib.hid (show Apart X6.heap.size pv Y.path from apart_old (HP5.out.later hB) (Nat.le_refl _))
    have A2 := Lib.hid (show Apart X6.heap.size qv Z.path from apart_old (HQ5.out.later hB) (Nat.le_refl _))
    have A3 := Lib.hid (show Apart X6.heap.size rv (bareU a0).path from apart_old hst (Nat.le_refl _))
    have N1 := Lib.hid (show g1 < X6.heap.size from hY6.lt)
    have N2 := Lib.hid (show g2 < X6.heap.size from hZ6.lt)
    have HBa := Lib.hid (below_trans HB5.out hB2)
    have N0 := Lib.hid (show X0.heap.size ≤ X6.heap.size from (below_trans HB5.out hB).size)
    have HYa := Lib.hid (HY5.out.later hB2)
    have HZa := Lib.hid (HZ5.out.later hB2)
    have HPa := Lib.hid (HP5.out.later hB2)
    have HQa := Lib.hid (HQ5.out.later hB2)
    have HLa := Lib.hid (hst.later (below_url X6 (bareU a0) rv))
    have HKa := Lib.hid (hnew.row (bareU a0) rv)
    clear hst hn hB hB2 hY6 hZ6 HB5 HY5 HZ5 HP5 HQ5 HU5 HM5 HS5
    go_upto_region 8 with ((with_reducible refine wp_store27 (o := ⟨none, .store 27 (.tmp 11) (.tmp 52), _, _, _, _⟩) ?_ (.tmp 11) (.tmp 52) ?_ X6.heap.size ?_ (bareU a0) rv ?_ LB hone none1 (.slice none 0 0) rfl hnew ?_); (· rfl); (· rfl); (· rfl); (· rfl); simp only [Act.put, List.setIfInBounds_toArray, List.set_cons_zero, List.set_cons_succ])
    generalize (X6.alloc (.cells #[.string ⟨#[]⟩, .string ⟨#[]⟩, .string ⟨#[]⟩, .int .i64 0, .string ⟨#[]⟩, .int .i64 0, .int .i64 0, .int .i64 0, .int .i64 0, .int .i64 0, .int .i64 0, .int .i64 0, .int .i64 0, .int .i64 0, .int .i64 0, .slice none 0 0, .string ⟨#[]⟩, .string ⟨#[]⟩, .string ⟨#[]⟩, .bool false, .bool false] 27)).setRow X6.heap.size (cU (bareU a0) rv) = VA at HBa HYa HZa HPa HQa HLa HKa ⊢
    generalize X6.heap.size = g3 at A1 A2 A3 N1 N2 N0 HKa ⊢
    clear hnew
    have hnew := new_url VA
    have hC := below_url VA (bareU a0) rv
    have hk := HKa.out
    have B1 := Lib.hid (show Apart VA.heap.size pv Y.path from apart_old HPa.out (Nat.le_refl _))
    have B2 := Lib.hid (show Apart VA.heap.size qv Z.path from apart_old HQa.out (Nat.le_refl _))
    have B3 := Lib.hid (show Apart VA.heap.size rv (bareU a0).path from apart_old HLa.out (Nat.le_refl _))
    have M1 := Lib.hid (show g1 < VA.heap.size from HYa.out.lt)
    have M2 := Lib.hid (show g2 < VA.heap.size from HZa.out.lt)
    have M3 := Lib.hid (show g3 < VA.heap.size from hk.lt)
    have M0 := Lib.hid (show X0.heap.size ≤ VA.heap.size from HBa.out.size)
    have HB := Lib.hid (below_trans HBa.out hC)
    have HY := Lib.hid (HYa.out.later hC)
    have HZ := Lib.hid (HZa.out.later hC)
    have HK := Lib.hid (HKa.out.later hC)
    have HP := Lib.hid (HPa.out.later hC)
    have HQ := Lib.hid (HQa.out.later hC)
    have HL := Lib.hid (HLa.out.later hC)
    have HW := Lib.hid (hnew.row (bareU a0) rv)
    clear HBa HYa HZa HKa HPa HQa HLa hC
    go_upto_region 9 with (first | ((with_reducible refine wp_load27 (o := ⟨some 53, .load 27 (.tmp 11), _, _, _, _⟩) ?_ (.tmp 11) ?_ g3 ?_ (bareU a0) rv LB hk ?_); (· rfl); (· rfl); (· rfl); simp only [Act.put, List.setIfInBounds_toArray, List.set_cons_zero, List.set_cons_succ]) | ((with_reducible refine wp_store27 (o := ⟨none, .store 27 (.tmp 12) (.tmp 53), _, _, _, _⟩) ?_ (.tmp 12) (.tmp 53) ?_ VA.heap.size ?_ (bareU a0) rv ?_ LB hone none1 (.slice none 0 0) rfl hnew ?_); (· rfl); (· rfl); (· rfl); (· rfl); simp only [Act.put, List.setIfInBounds_toArray, List.set_cons_zero, List.set_cons_succ]))
    generalize (VA.alloc (.cells #[.string ⟨#[]⟩, .string ⟨#[]⟩, .string ⟨#[]⟩, .int .i64 0, .string ⟨#[]⟩, .int .i64 0, .int .i64 0, .int .i64 0, .int .i64 0, .int .i64 0, .int .i64 0, .int .i64 0, .int .i64 0, .int .i64 0, .int .i64 0, .slice none 0 0, .string ⟨#[]⟩, .string ⟨#[]⟩, .string ⟨#[]⟩, .bool false, .bool false] 27)).setRow VA.heap.size (cU (bareU a0) rv) = VB at HB HY HZ HK HP HQ HL HW ⊢
    generalize VA.heap.size = g4 at B1 B2 B3 M1 M2 M3 M0 HW ⊢
    clear hnew hk hone
    have LB' := Lib.hid LB
    have dd := HK.out.cell 17
    rw [(cU_at (bareU a0) rv (by exact l0)).2.2.2.2.2.2.2.1] at dd
    have ff := HK.out.free 17
    have ee17 := HY.out.cell 17
    rw [(cU_at Y pv LY.out).2.2.2.2.2.2.2.1] at ee17
    go_upto_region 10 with fail
    clear dd ff ee17
    have T1 := Lib.hid (show UrlAt (VB.setCell ⟨g3, 17, none⟩ (.string (tb Y.qry))) g3 _ _ from HK.out.qry (by exact l0) Y.qry)
    have T1HY := Lib.hid (url_set HY.out (by have := N1.out; omega : g3 ≠ g1) (j := 17) (.string (tb Y.qry)))
    have T1HZ := Lib.hid (url_set HZ.out (by have := N2.out; omega : g3 ≠ g2) (j := 17) (.string (tb Y.qry)))
    have T1HW := Lib.hid (url_set HW.out (by have := M3.out; omega : g3 ≠ g4) (j := 17) (.string (tb Y.qry)))
    have T1HP := Lib.hid (strs_apart HP.out A1.out (fun k hk => set_other VB g3 17 (.string (tb Y.qry)) (Ne.symm hk)))
    have T1HQ := Lib.hid (strs_apart HQ.out A2.out (fun k hk => set_other VB g3 17 (.string (tb Y.qry)) (Ne.symm hk)))
    have T1HL := Lib.hid (strs_apart HL.out A3.out (fun k hk => set_other VB g3 17 (.string (tb Y.qry)) (Ne.symm hk)))
    have T1B := Lib.hid (below_set HB.out N0.out 17 (.string (tb Y.qry)))
    clear HK HY HZ HW HP HQ HL HB
    generalize VB.setCell ⟨g3, 17, none⟩ (.string (tb Y.qry)) = Y1 at T1 T1HY T1HZ T1HW T1HP T1HQ T1HL T1B ⊢
    have HK := T1
    clear T1
    have HY := T1HY
    clear T1HY
    have HZ := T1HZ
    clear T1HZ
    have HW := T1HW
    clear T1HW
    have HP := T1HP
    clear T1HP
    have HQ := T1HQ
    clear T1HQ
    have HL := T1HL
    clear T1HL
    have HB := T1B
    clear T1B
    have dd := HK.out.cell 19
    rw [(cU_at _ rv (by exact l0)).2.2.2.2.2.2.2.2.2.1] at dd
    have ff := HK.out.free 19
    go_upto_region 11 with fail
    clear dd ff 
    have T2 := Lib.hid (show UrlAt (Y1.setCell ⟨g3, 19, none⟩ (.bool true)) g3 _ _ from HK.out.hq (by exact l0) true)
    have T2HY := Lib.hid (url_set HY.out (by have := N1.out; omega : g3 ≠ g1) (j := 19) (.bool true))
    have T2HZ := Lib.hid (url_set HZ.out (by have := N2.out; omega : g3 ≠ g2) (j := 19) (.bool true))
    have T2HW := Lib.hid (url_set HW.out (by have := M3.out; omega : g3 ≠ g4) (j := 19) (.bool true))
    have T2HP := Lib.hid (strs_apart HP.out A1.out (fun k hk => set_other Y1 g3 19 (.bool true) (Ne.symm hk)))
    have T2HQ := Lib.hid (strs_apart HQ.out A2.out (fun k hk => set_other Y1 g3 19 (.bool true) (Ne.symm hk)))
    have T2HL := Lib.hid (strs_apart HL.out A3.out (fun k hk => set_other Y1 g3 19 (.bool true) (Ne.symm hk)))
    have T2B := Lib.hid (below_set HB.out N0.out 19 (.bool true))
    clear HK HY HZ HW HP HQ HL HB
    generalize Y1.setCell ⟨g3, 19, none⟩ (.bool true) = Y2 at T2 T2HY T2HZ T2HW T2HP T2HQ T2HL T2B ⊢
    have HK := T2
    clear T2
    have HY := T2HY
    clear T2HY
    have HZ := T2HZ
    clear T2HZ
    have HW := T2HW
    clear T2HW
    have HP := T2HP
    clear T2HP
    have HQ := T2HQ
    clear T2HQ
    have HL := T2HL
    clear T2HL
    have HB := T2B
    clear T2B
    have dd := HK.out.cell 18
    rw [(cU_at _ rv (by exact l0)).2.2.2.2.2.2.2.2.1] at dd
    have ff := HK.out.free 18
    have ee18 := HY.out.cell 18
    rw [(cU_at Y pv LY.out).2.2.2.2.2.2.2.2.1] at ee18
    go_upto_region 12 with fail
    clear dd ff ee18
    have T3 := Lib.hid (show UrlAt (Y2.setCell ⟨g3, 18, none⟩ (.string (tb Y.frg))) g3 _ _ from HK.out.frg (by exact l0) Y.frg)
    have T3HY := Lib.hid (url_set HY.out (by have := N1.out; omega : g3 ≠ g1) (j := 18) (.string (tb Y.frg)))
    have T3HZ := Lib.hid (url_set HZ.out (by have := N2.out; omega : g3 ≠ g2) (j := 18) (.string (tb Y.frg)))
    have T3HW := Lib.hid (url_set HW.out (by have := M3.out; omega : g3 ≠ g4) (j := 18) (.string (tb Y.frg)))
    have T3HP := Lib.hid (strs_apart HP.out A1.out (fun k hk => set_other Y2 g3 18 (.string (tb Y.frg)) (Ne.symm hk)))
    have T3HQ := Lib.hid (strs_apart HQ.out A2.out (fun k hk => set_other Y2 g3 18 (.string (tb Y.frg)) (Ne.symm hk)))
    have T3HL := Lib.hid (strs_apart HL.out A3.out (fun k hk => set_other Y2 g3 18 (.string (tb Y.frg)) (Ne.symm hk)))
    have T3B := Lib.hid (below_set HB.out N0.out 18 (.string (tb Y.frg)))
    clear HK HY HZ HW HP HQ HL HB
    generalize Y2.setCell ⟨g3, 18, none⟩ (.string (tb Y.frg)) = Y3 at T3 T3HY T3HZ T3HW T3HP T3HQ T3HL T3B ⊢
    have HK := T3
    clear T3
    have HY := T3HY
    clear T3HY
    have HZ := T3HZ
    clear T3HZ
    have HW := T3HW
    clear T3HW
    have HP := T3HP
    clear T3HP
    have HQ := T3HQ
    clear T3HQ
    have HL := T3HL
    clear T3HL
    have HB := T3B
    clear T3B
    have dd := HK.out.cell 20
    rw [(cU_at _ rv (by exact l0)).2.2.2.2.2.2.2.2.2.2] at dd
    have ff := HK.out.free 20
    have ee20 := HY.out.cell 20
    rw [(cU_at Y pv LY.out).2.2.2.2.2.2.2.2.2.2] at ee20
    go_upto_region 13 with fail
    clear dd ff ee20
    have T4 := Lib.hid (show UrlAt (Y3.setCell ⟨g3, 20, none⟩ (.bool Y.hf)) g3 _ _ from HK.out.hf (by exact l0) Y.hf)
    have T4HY := Lib.hid (url_set HY.out (by have := N1.out; omega : g3 ≠ g1) (j := 20) (.bool Y.hf))
    have T4HZ := Lib.hid (url_set HZ.out (by have := N2.out; omega : g3 ≠ g2) (j := 20) (.bool Y.hf))
    have T4HW := Lib.hid (url_set HW.out (by have := M3.out; omega : g3 ≠ g4) (j := 20) (.bool Y.hf))
    have T4HP := Lib.hid (strs_apart HP.out A1.out (fun k hk => set_other Y3 g3 20 (.bool Y.hf) (Ne.symm hk)))
    have T4HQ := Lib.hid (strs_apart HQ.out A2.out (fun k hk => set_other Y3 g3 20 (.bool Y.hf) (Ne.symm hk)))
    have T4HL := Lib.hid (strs_apart HL.out A3.out (fun k hk => set_other Y3 g3 20 (.bool Y.hf) (Ne.symm hk)))
    have T4B := Lib.hid (below_set HB.out N0.out 20 (.bool Y.hf))
    clear HK HY HZ HW HP HQ HL HB
    generalize Y3.setCell ⟨g3, 20, none⟩ (.bool Y.hf) = Y4 at T4 T4HY T4HZ T4HW T4HP T4HQ T4HL T4B ⊢
    have HK := T4
    clear T4
    have HY := T4HY
    clear T4HY
    have HZ := T4HZ
    clear T4HZ
    have HW := T4HW
    clear T4HW
    have HP := T4HP
    clear T4HP
    have HQ := T4HQ
    clear T4HQ
    have HL := T4HL
    clear T4HL
    have HB := T4B
    clear T4B
    have hU : ({ bareU a0 with qry := Y.qry, hq := true, frg := Y.frg, hf := Y.hf } : U) = Y := by rw [← HYY.out]; rfl
    have HKK := HK
    clear HK
    have HK := Lib.hid (show UrlAt Y4 g3 Y rv from by have h := HKK.out; rw [← hU]; exact h)
    have HLL := HL
    clear HL
    have HL := Lib.hid (show Path.Strs Y4 rv Y.path from by rw [← HYY.out]; exact HLL.out)
    have A3' := Lib.hid (show Apart g3 rv Y.path from by rw [← HYY.out]; exact A3.out)
    have B3' := Lib.hid (show Apart g4 rv Y.path from by rw [← HYY.out]; exact B3.out)
    clear hU HKK HLL
    have hs1 : (Y4.alloc (.cells #[.string ⟨#[]⟩] 9)).heap.size = Y4.heap.size + 1 := Array.size_push _
    have hBn := (Below.refl Y4.heap.size Y4).alloc (Nat.le_refl _) (.cells #[.string ⟨#[]⟩] 9)
    have HN := Lib.hid (show Path.Strs (Y4.alloc (.cells #[.string ⟨#[]⟩] 9)) (.slice (some ⟨Y4.heap.size, 0, none⟩) 1 1) [[]] from strs_new1 Y4 ⟨#[]⟩)
    have C4 := Lib.hid (show Apart g4 (.slice (some ⟨Y4.heap.size, 0, none⟩) 1 1) [[]] from by
      intro _ b o s n c e
      cases e
      have := HW.out.lt
      omega)
    have HB' := Lib.hid (below_trans HB.out hBn)
    have HY' := Lib.hid (HY.out.later hBn)
    have HZ' := Lib.hid (HZ.out.later hBn)
    have HK' := Lib.hid (HK.out.later hBn)
    have HW' := Lib.hid (HW.out.later hBn)
    have HP' := Lib.hid (HP.out.later hBn)
    have HQ' := Lib.hid (HQ.out.later hBn)
    have HL' := Lib.hid (HL.out.later hBn)
    clear HB HY HZ HK HW HP HQ HL hs1 hBn
    have dd := HW'.out.cell 15
    rw [(cU_at _ _ (by exact l0)).2.2.2.2.2.1] at dd
    have ff := HW'.out.free 15
    go_upto_region 14 with fail
    clear dd ff
    generalize Y4.heap.size = g5 at HN C4 ⊢
    generalize Y4.alloc (.cells #[.string ⟨#[]⟩] 9) = VC at HB' HY' HZ' HK' HW' HP' HQ' HL' HN ⊢
    have HW := Lib.hid (show UrlAt (VC.setCell ⟨g4, 15, none⟩ (.slice (some ⟨g5, 0, none⟩) 1 1)) g4 _ _ from HW'.out.pth (by exact l0) [[]] (.slice (some ⟨g5, 0, none⟩) 1 1))
    have HY := Lib.hid (url_set HY'.out (by have := M1.out; omega : g4 ≠ g1) (j := 15) (.slice (some ⟨g5, 0, none⟩) 1 1))
    have HZ := Lib.hid (url_set HZ'.out (by have := M2.out; omega : g4 ≠ g2) (j := 15) (.slice (some ⟨g5, 0, none⟩) 1 1))
    have HK := Lib.hid (url_set HK'.out (by have := M3.out; omega : g4 ≠ g3) (j := 15) (.slice (some ⟨g5, 0, none⟩) 1 1))
    have HP := Lib.hid (strs_apart HP'.out B1.out (fun k hk => set_other VC g4 15 (.slice (some ⟨g5, 0, none⟩) 1 1) (Ne.symm hk)))
    have HQ := Lib.hid (strs_apart HQ'.out B2.out (fun k hk => set_other VC g4 15 (.slice (some ⟨g5, 0, none⟩) 1 1) (Ne.symm hk)))
    have HL := Lib.hid (strs_apart HL'.out B3'.out (fun k hk => set_other VC g4 15 (.slice (some ⟨g5, 0, none⟩) 1 1) (Ne.symm hk)))
    have HNs := Lib.hid (strs_apart HN.out C4.out (fun k hk => set_other VC g4 15 (.slice (some ⟨g5, 0, none⟩) 1 1) (Ne.symm hk)))
    have HB := Lib.hid (below_set HB'.out M0.out 15 (.slice (some ⟨g5, 0, none⟩) 1 1))
    clear HW' HY' HZ' HK' HP' HQ' HL' HN HB'
    generalize VC.setCell ⟨g4, 15, none⟩ (.slice (some ⟨g5, 0, none⟩) 1 1) = VD at HW HY HZ HK HP HQ HL HNs HB ⊢
    have dd := HW.out.cell 17
    rw [(cU_at _ _ (by exact l0)).2.2.2.2.2.2.2.1] at dd
    have ff := HW.out.free 17
    go_upto_region 15 with fail
    clear dd ff 
    have T11 := Lib.hid (show UrlAt (VD.setCell ⟨g4, 17, none⟩ (.string ⟨#[]⟩)) g4 _ _ from HW.out.qry (by exact l0) [])
    have T11HY := Lib.hid (url_set HY.out (by have := M1.out; omega : g4 ≠ g1) (j := 17) (.string ⟨#[]⟩))
    have T11HZ := Lib.hid (url_set HZ.out (by have := M2.out; omega : g4 ≠ g2) (j := 17) (.string ⟨#[]⟩))
    have T11HK := Lib.hid (url_set HK.out (by have := M3.out; omega : g4 ≠ g3) (j := 17) (.string ⟨#[]⟩))
    have T11HP := Lib.hid (strs_apart HP.out B1.out (fun k hk => set_other VD g4 17 (.string ⟨#[]⟩) (Ne.symm hk)))
    have T11HQ := Lib.hid (strs_apart HQ.out B2.out (fun k hk => set_other VD g4 17 (.string ⟨#[]⟩) (Ne.symm hk)))
    have T11HL := Lib.hid (strs_apart HL.out B3'.out (fun k hk => set_other VD g4 17 (.string ⟨#[]⟩) (Ne.symm hk)))
    have T11HNs := Lib.hid (strs_apart HNs.out C4.out (fun k hk => set_other VD g4 17 (.string ⟨#[]⟩) (Ne.symm hk)))
    have T11B := Lib.hid (below_set HB.out M0.out 17 (.string ⟨#[]⟩))
    clear HW HY HZ HK HP HQ HL HNs HB
    generalize VD.setCell ⟨g4, 17, none⟩ (.string ⟨#[]⟩) = Y11 at T11 T11HY T11HZ T11HK T11HP T11HQ T11HL T11HNs T11B ⊢
    have HW := T11
    clear T11
    have HY := T11HY
    clear T11HY
    have HZ := T11HZ
    clear T11HZ
    have HK := T11HK
    clear T11HK
    have HP := T11HP
    clear T11HP
    have HQ := T11HQ
    clear T11HQ
    have HL := T11HL
    clear T11HL
    have HNs := T11HNs
    clear T11HNs
    have HB := T11B
    clear T11B
    have dd := HW.out.cell 19
    rw [(cU_at _ _ (by exact l0)).2.2.2.2.2.2.2.2.2.1] at dd
    have ff := HW.out.free 19
    go_upto_region 16 with fail
    clear dd ff 
    have T12 := Lib.hid (show UrlAt (Y11.setCell ⟨g4, 19, none⟩ (.bool false)) g4 _ _ from HW.out.hq (by exact l0) false)
    have T12HY := Lib.hid (url_set HY.out (by have := M1.out; omega : g4 ≠ g1) (j := 19) (.bool false))
    have T12HZ := Lib.hid (url_set HZ.out (by have := M2.out; omega : g4 ≠ g2) (j := 19) (.bool false))
    have T12HK := Lib.hid (url_set HK.out (by have := M3.out; omega : g4 ≠ g3) (j := 19) (.bool false))
    have T12HP := Lib.hid (strs_apart HP.out B1.out (fun k hk => set_other Y11 g4 19 (.bool false) (Ne.symm hk)))
    have T12HQ := Lib.hid (strs_apart HQ.out B2.out (fun k hk => set_other Y11 g4 19 (.bool false) (Ne.symm hk)))
    have T12HL := Lib.hid (strs_apart HL.out B3'.out (fun k hk => set_other Y11 g4 19 (.bool false) (Ne.symm hk)))
    have T12HNs := Lib.hid (strs_apart HNs.out C4.out (fun k hk => set_other Y11 g4 19 (.bool false) (Ne.symm hk)))
    have T12B := Lib.hid (below_set HB.out M0.out 19 (.bool false))
    clear HW HY HZ HK HP HQ HL HNs HB
    generalize Y11.setCell ⟨g4, 19, none⟩ (.bool false) = Y12 at T12 T12HY T12HZ T12HK T12HP T12HQ T12HL T12HNs T12B ⊢
    have HW := T12
    clear T12
    have HY := T12HY
    clear T12HY
    have HZ := T12HZ
    clear T12HZ
    have HK := T12HK
    clear T12HK
    have HP := T12HP
    clear T12HP
    have HQ := T12HQ
    clear T12HQ
    have HL := T12HL
    clear T12HL
    have HNs := T12HNs
    clear T12HNs
    have HB := T12B
    clear T12B
    have hU : ({ bareU a0 with path := [[]], qry := [], hq := false } : U) = Z := by rw [← HZZ.out]; rfl
    have HWZ := Lib.hid (show UrlAt Y12 g4 Z (.slice (some ⟨g5, 0, none⟩) 1 1) from by have h := HW.out; rw [← hU]; exact h)
    have HNZ := Lib.hid (show Path.Strs Y12 (.slice (some ⟨g5, 0, none⟩) 1 1) Z.path from by rw [← HZZ.out]; exact HNs.out)
    have CE := Lib.hid (fun p q y hp hq => same_any Y Y p q LY.out LY.out true ((same_iff _ _).2 rfl) y hp hq)
    have CG := Lib.hid (fun p q y hp hq => same_any Z Z p q LZ.out LZ.out true ((same_iff _ _).2 rfl) y hp hq)
    clear hU HW HNs
    have hy := HY.out
    have hk := HK.out
    have ly := LY.out
    have lz := LZ.out
    go_wp2_with (first | ((with_reducible refine wp_load27 (o := ⟨some 70, .load 27 (.tmp 7), _, _, _, _⟩) ?_ (.tmp 7) ?_ g1 ?_ Y pv ly hy ?_); (· rfl); (· rfl); (· rfl); simp only [Act.put, List.setIfInBounds_toArray, List.set_cons_zero, List.set_cons_succ]) | ((with_reducible refine wp_load27 (o := ⟨some 71, .load 27 (.tmp 11), _, _, _, _⟩) ?_ (.tmp 11) ?_ g3 ?_ Y rv ly hk ?_); (· rfl); (· rfl); (· rfl); simp only [Act.put, List.setIfInBounds_toArray, List.set_cons_zero, List.set_cons_succ]))
    refine (CE.out pv rv _ HP.out HL.out).mono ?_
    rintro e Y20 ⟨rfl, hB⟩
    have hz := HZ.out.later hB
    have hw := HWZ.out.later hB
    clear hy hk
    go_wp2_with (first | ((with_reducible refine wp_load27 (o := ⟨some 78, .load 27 (.tmp 9), _, _, _, _⟩) ?_ (.tmp 9) ?_ g2 ?_ Z qv lz hz ?_); (· rfl); (· rfl); (· rfl); simp only [Act.put, List.setIfInBounds_toArray, List.set_cons_zero, List.set_cons_succ]) | ((with_reducible refine wp_load27 (o := ⟨some 79, .load 27 (.tmp 12), _, _, _, _⟩) ?_ (.tmp 12) ?_ g4 ?_ Z (.slice (some ⟨g5, 0, none⟩) 1 1) lz hw ?_); (· rfl); (· rfl); (· rfl); simp only [Act.put, List.setIfInBounds_toArray, List.set_cons_zero, List.set_cons_succ]))
    refine (CG.out qv _ _ (HQ.out.later hB) (HNZ.out.later hB)).mono ?_
    rintro e Y21 ⟨rfl, hB'⟩
    go_wp2
    go_ret
    exact ⟨rfl, HX.out.trans ((below_trans (below_trans HB.out hB) hB').mono HX.out.size)⟩
  · go_wp2
    go_ret
    exact ⟨rfl, HX.out.trans (HB2.out.mono HX.out.size)⟩

/-! ### The row's step -/
theorem reads (os : Os) {H : Type} (enc : TypeId × Value → H) : (DataW.whole enc Tryz.prog ((Card.laidWorld os).forCall (fun _ _ => 0) ⟨#[], #[.agg #[.string ByteArray.empty, .string ByteArray.empty, .string ByteArray.empty, .int .i64 0, .string ByteArray.empty, .int .i64 0, .int .i64 0, .int .i64 0, .int .i64 0, .int .i64 0, .int .i64 0, .int .i64 0, .int .i64 0, .int .i64 0, .int .i64 0, .slice none 0 0, .string ByteArray.empty, .string ByteArray.empty, .string ByteArray.empty, .bool false, .bool false], .string ByteArray.empty], []⟩).memory Tryz.f7.params.toList Rows.joinQuerySpec.vars false (#[.agg #[.string ByteArray.empty, .string ByteArray.empty, .string ByteArray.empty, .int .i64 0, .string ByteArray.empty, .int .i64 0, .int .i64 0, .int .i64 0, .int .i64 0, .int .i64 0, .int .i64 0, .int .i64 0, .int .i64 0, .int .i64 0, .int .i64 0, .slice none 0 0, .string ByteArray.empty, .string ByteArray.empty, .string ByteArray.empty, .bool false, .bool false], .string ByteArray.empty] : Array Value).toList 8).map (fun x => (x.1, x.2.1)) = some ([.agg [.lit (.string []), .lit (.string []), .lit (.string []), .agg [.lit (.int .i64 0), .lit (.string []), .lit (.int .i64 0), .agg [.lit (.int .i64 0), .lit (.int .i64 0), .lit (.int .i64 0), .lit (.int .i64 0), .lit (.int .i64 0), .lit (.int .i64 0), .lit (.int .i64 0), .lit (.int .i64 0)]], .lit (.int .i64 0), .nil, .lit (.string []), .lit (.string []), .lit (.string []), .lit (.bool false), .lit (.bool false)], .lit (.string [])], []) := by kernel_rfl
set_option maxRecDepth 100000 in
theorem lifted (os : Os) (started : os.Started) (H : Type) (enc : TypeId × Value → H) (F : Stop.Interp) :
    ReturnsInHanded {} Tryz.checked os 7 .any ((OpenSpec.ofChange Rows.joinQuerySpec).preRow enc Tryz.prog Tryz.f7 Rows.joinQueryRow.domain false Rows.joinQueryRow.laid) (((OpenSpec.ofChange Rows.joinQuerySpec).at F).post enc Tryz.prog Tryz.f7 false true false false) := by
  obtain ⟨⟨x1, x2, x3⟩, hx, hx1⟩ := Option.map_eq_some_iff.1 (reads os enc)
  simp only [Prod.mk.injEq] at hx1
  obtain ⟨rfl, rfl⟩ := hx1
  refine returnsInHanded_of_row (C := Tryz.checked) (s := OpenSpec.ofChange Rows.joinQuerySpec) own started (by kernel_rfl) Tryz.func7
    (witness_row_at (enc := enc) (C := Tryz.checked) false (Card.laidWorld os) #[.agg #[.string ByteArray.empty, .string ByteArray.empty, .string ByteArray.empty, .int .i64 0, .string ByteArray.empty, .int .i64 0, .int .i64 0, .int .i64 0, .int .i64 0, .int .i64 0, .int .i64 0, .int .i64 0, .int .i64 0, .int .i64 0, .int .i64 0, .slice none 0 0, .string ByteArray.empty, .string ByteArray.empty, .string ByteArray.empty, .bool false, .bool false], .string ByteArray.empty] rfl (by kernel_rfl) (by kernel_rfl) (by kernel_rfl)
      (OpenSpec.preRow_of_cond 8 hx (by kernel_rfl) (fun k hk => by cases hk) (by kernel_rfl) (Card.laid_met os _))) ?_
  intro W base args ds gs before hval0 hW _ _ _ hL hsh _
  obtain ⟨m, hmax⟩ := Card.maxLen_int hsh
  have hm : Six.At m W := ⟨hmax, Six.tab_of hL⟩
  have hval : ∀ (j : Nat) t v, Tryz.f7.params[j]? = some t → args[j]? = some v → Value.okWide Tryz.prog W .any base t v := hval0
  have hW' := hW
  obtain ⟨p, q, hA0, hV, rfl, hfz, hnd⟩ := hW
  have hA : DataW.TrodAll enc Tryz.prog W 0 (fun _ => true) true Tryz.f7.params.toList args.toList ds p := hA0
  rw [Tryz.params7] at hA hval
  obtain ⟨v0, vs0, d0, ds0, p0, q0, hargs0, rfl, rfl, t0, r0⟩ := trodAll_cons hA
  obtain ⟨v1, vs1, d1, ds1, p1, q1, hargs1, rfl, rfl, t1, r1⟩ := trodAll_cons r0
  obtain ⟨rfl, rfl, rfl⟩ := trodAll_nil r1
  obtain rfl : args = #[v0, v1] := by cases args; simp_all
  obtain ⟨rfl, rfl⟩ := trodVars_none hV
  have k0 := t0
  have lt0 : ∀ x ∈ p0, x.block < W.heap.size := by obtain ⟨m, hm⟩ := k0; exact DataW.trod_lt m _ _ _ hm
  obtain ⟨a0, pv0, l0, rfl, z0, w0⟩ := Url.open_url (hval 0 27 v0 rfl rfl) t0
  obtain ⟨a1, rfl, rfl, rfl, w1⟩ := open_string Tryz.underlying9 (hval 1 9 v1 rfl rfl) t1
  clear hA0 hval0
  simp only [List.append_nil] at hW'
  refine (walk a0 pv0 l0 a1 w1 m W hm z0 w0).mono fun e W' ⟨he, bel⟩ => ?_
  subst he
  exact ⟨_, rfl, _, _, _, [], _, [], hW', trodAll_mk1 (shut_bool Tryz.underlying4 _), (trodAll_cons_mk (Below.trod laidOut (by kernel_rfl) (of_decide_eq_true (by kernel_rfl)) k0 bel lt0) (trodAll_cons_mk (shut_string Tryz.underlying9 w1) trodAll_mk0)), rfl, bel.frame _, fun h => by cases h⟩

theorem said : Rows.joinQueryRow.holds Tryz.pinned (OpenSpec.ofChange Rows.joinQuerySpec) :=
  OpenClaim.holds_of_cond 7 Tryz.f7 rfl rfl rfl rfl rfl rfl rfl ⟨rfl, rfl, rfl, rfl, rfl⟩ rfl rfl rfl rfl rfl (by kernel_rfl) Tryz.func7 (by kernel_rfl)
    (of_decide_eq_true (by kernel_rfl)) (by unfold Func.isWrapper; first | (rw [if_pos (by decide +kernel)]; kernel_rfl) | (rw [if_neg (by decide +kernel)]; exact ⟨rfl, rfl⟩))
    (fun os started H enc _ F => by rw [OpenClaim.pre_eq_preRow]; exact lifted os started H enc F)

/-- No parameter wants a stand-in; the program's own looks are on. -/
theorem plain (f : FuncId) (fn : Func) (hf : Tryz.pinned.checked.prog.funcNamed Rows.joinQueryRow.func = some f) (hfn : Tryz.pinned.checked.prog.funcs[f]? = some fn) :
    true = Tryz.pinned.checked.prog.looks [] ∧ ∀ (j : Nat) t, fn.params[j]? = some t → Tryz.pinned.checked.prog.wantsStandIn t = false := by
  obtain rfl : f = 7 := Option.some.inj ((show Tryz.prog.funcNamed Rows.joinQueryRow.func = some 7 by kernel_rfl).symm.trans hf) |>.symm
  obtain rfl : fn = Tryz.f7 := (Option.some.inj (Tryz.func7.symm.trans hfn)).symm
  refine ⟨by kernel_rfl, fun j t ht => ?_⟩
  rw [Tryz.params7] at ht
  obtain rfl | rfl : t = 27 ∨ t = 9 := by simpa using Array.mem_of_getElem? ht
  · exact (show Tryz.prog.wantsStandIn 27 = false by kernel_rfl)
  · exact (show Tryz.prog.wantsStandIn 9 = false by kernel_rfl)

/-- The statement: the card. -/
theorem proved : Rows.JoinQueryCardSaid :=
  Claim7.holds_tied_plain_at .later [] _ _ _ _ said (fun _ h => by cases h) (by kernel_rfl) (fun _ h => by cases h) joinQuery_row_tie rfl ⟨rfl, rfl⟩ (by kernel_rfl) rfl plain (by kernel_rfl)
#print axioms proved
end Go.Proofs.YtkhjhiofgoampaaGreatDoor.joinQuery
