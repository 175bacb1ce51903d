/-
  The chapter's example, run.
-/
import Derived.Test.YtbmnhmbicefemaaGreatDoorRf
namespace Go.Proofs.YtbmnhmbicefemaaGreatDoor.Refer
set_option linter.unusedSimpArgs false
set_option linter.unusedVariables false
set_option maxRecDepth 100000


open Go.RowKit Go.Shelf

open Url Show Origin Strip

open Host (H none0 mayH showH localH)

open Path (Strs)

open Policy (allowI TabAt)

set_option maxRecDepth 100000

set_option maxHeartbeats 16000000 in
theorem awake_calls (m : Int) (w : World) (hm : Six.At m w) (hT : TabAt w) : Calls Tryz.prog 8 #[] w fun e w' => e = .returned (.bool true) ∧ Below w.heap.size w w' := by
  have LX : uX.h.p.length = 8 := rfl
  have LT : uT.h.p.length = 8 := rfl
  have hk : (parU xS).h.k = 3 → Six.Known := fun e => by rw [xS_par] at e; exact absurd e (by decide)
  have hfx : Fit (parU xS) := by rw [xS_par]; exact uX_fit
  have HM0 := Lib.hid hm
  have HP0 := Lib.hid hT
  clear hm hT
  go_enter Tryz.func8, Tryz.ntmps8
  go_wp2_with fail
  refine (parse_at tS (by decide) uT true tS_par tS_ok m w HM0.out).mono ?_
  rintro e u1 ⟨pv, rfl, hst, hn, hB⟩
  have hone := strs_one hst
  have hnew := new_url u1
  have hB2 := below_trans hB (below_url u1 uT pv)
  have HB1 := Lib.hid hB2
  have HM1 := Lib.hid (HM0.out.later hB2)
  have HP1 := Lib.hid (HP0.out.later hB2)
  have HS1 := Lib.hid (hst.later (below_url u1 uT pv))
  have HU1 := Lib.hid (hnew.row uT pv)
  clear HM0 HP0 hst hn hB hB2
  have hu0 := HU1.out
  go_wp2_with (first | ((with_reducible refine wp_store27 (o := ⟨none, .store 27 (.tmp 1) (.tmp 13), _, _, _, _⟩) ?_ (.tmp 1) (.tmp 13) ?_ u1.heap.size ?_ uT pv ?_ LT hone none1 (.slice none 0 0) rfl hnew ?_); (· rfl); (· rfl); (· rfl); (· rfl); simp only [Act.put, List.setIfInBounds_toArray, List.set_cons_zero, List.set_cons_succ]) | ((with_reducible refine wp_load27 (o := ⟨some 16, .load 27 (.tmp 1), _, _, _, _⟩) ?_ (.tmp 1) ?_ u1.heap.size ?_ uT pv LT hu0 ?_); (· rfl); (· rfl); (· rfl); simp only [Act.put, List.setIfInBounds_toArray, List.set_cons_zero, List.set_cons_succ]))
  clear hu0
  generalize (u1.alloc (.cells #[.string ⟨#[]⟩, .string ⟨#[]⟩, .string ⟨#[]⟩, .int .i64 0, .string ⟨#[]⟩, .int .i64 0, .int .i64 0, .int .i64 0, .int .i64 0, .int .i64 0, .int .i64 0, .int .i64 0, .int .i64 0, .int .i64 0, .int .i64 0, .slice none 0 0, .string ⟨#[]⟩, .string ⟨#[]⟩, .string ⟨#[]⟩, .bool false, .bool false] 27)).setRow u1.heap.size (cU uT pv) = V1 at HB1 HM1 HP1 HS1 HU1 ⊢
  generalize u1.heap.size = g1 at HU1 ⊢
  clear hnew hone
  refine (referer_any 7 xS uT pv (by decide) hfx uT_fit false ex_ref7.1 _ ex_ref7.2 m _ HM1.out HS1.out HP1.out hk).mono ?_
  rintro e x2 ⟨rfl, hB⟩
  have HB2 := Lib.hid (below_trans HB1.out hB)
  have HM2 := Lib.hid (HM1.out.later hB)
  have HP2 := Lib.hid (HP1.out.later hB)
  have HS2 := Lib.hid (HS1.out.later hB)
  have HU2 := Lib.hid (HU1.out.later hB)
  clear hB HB1 HM1 HP1 HS1 HU1
  have hu0 := HU2.out
  go_wp2_with ((with_reducible refine wp_load27 (o := ⟨some 21, .load 27 (.tmp 1), _, _, _, _⟩) ?_ (.tmp 1) ?_ g1 ?_ uT pv LT hu0 ?_); (· rfl); (· rfl); (· rfl); simp only [Act.put, List.setIfInBounds_toArray, List.set_cons_zero, List.set_cons_succ])
  clear hu0
  refine (referer_any 4 xS uT pv (by decide) hfx uT_fit true ex_refB4 _ ex_refT4 m _ HM2.out HS2.out HP2.out hk).mono ?_
  rintro e x3 ⟨rfl, hB⟩
  have HB3 := Lib.hid (below_trans HB2.out hB)
  have HM3 := Lib.hid (HM2.out.later hB)
  have HP3 := Lib.hid (HP2.out.later hB)
  have HS3 := Lib.hid (HS2.out.later hB)
  have HU3 := Lib.hid (HU2.out.later hB)
  clear hB HB2 HM2 HP2 HS2 HU2
  go_wp2_with fail
  refine (from_any xS (by decide) true xS_from uX xS_fromU m _ HM3.out).mono ?_
  rintro e u4 ⟨qv, rfl, hst, hn, hB⟩
  have hone := strs_one hst
  have hnew := new_url u4
  have hB2 := below_trans hB (below_url u4 uX qv)
  have HB4 := Lib.hid (below_trans HB3.out hB2)
  have HM4 := Lib.hid (HM3.out.later hB2)
  have HP4 := Lib.hid (HP3.out.later hB2)
  have HS4 := Lib.hid (HS3.out.later hB2)
  have HU4 := Lib.hid (HU3.out.later hB2)
  have HR4 := Lib.hid (hst.later (below_url u4 uX qv))
  have HX4 := Lib.hid (hnew.row uX qv)
  clear hst hn hB hB2 HB3 HM3 HP3 HS3 HU3
  go_wp2_with ((with_reducible refine wp_store27 (o := ⟨none, .store 27 (.tmp 7) (.tmp 27), _, _, _, _⟩) ?_ (.tmp 7) (.tmp 27) ?_ u4.heap.size ?_ uX qv ?_ LX hone none1 (.slice none 0 0) rfl hnew ?_); (· rfl); (· rfl); (· rfl); (· rfl); simp only [Act.put, List.setIfInBounds_toArray, List.set_cons_zero, List.set_cons_succ])
  generalize (u4.alloc (.cells #[.string ⟨#[]⟩, .string ⟨#[]⟩, .string ⟨#[]⟩, .int .i64 0, .string ⟨#[]⟩, .int .i64 0, .int .i64 0, .int .i64 0, .int .i64 0, .int .i64 0, .int .i64 0, .int .i64 0, .int .i64 0, .int .i64 0, .int .i64 0, .slice none 0 0, .string ⟨#[]⟩, .string ⟨#[]⟩, .string ⟨#[]⟩, .bool false, .bool false] 27)).setRow u4.heap.size (cU uX qv) = V4 at HB4 HM4 HP4 HS4 HU4 HR4 HX4 ⊢
  generalize u4.heap.size = g4 at HX4 ⊢
  clear hnew hone
  refine (from_any dS (by decide) false dS_from none1 (from_no dS_from) m _ HM4.out).mono ?_
  rintro e u5 ⟨rv, rfl, hst, hn, hB⟩
  have hone := strs_one hst
  have hnew := new_url u5
  have hB2 := below_trans hB (below_url u5 none1 rv)
  have HB5 := Lib.hid (below_trans HB4.out hB2)
  have HM5 := Lib.hid (HM4.out.later hB2)
  have HP5 := Lib.hid (HP4.out.later hB2)
  have HS5 := Lib.hid (HS4.out.later hB2)
  have HU5 := Lib.hid (HU4.out.later hB2)
  have HR5 := Lib.hid (HR4.out.later hB2)
  have HX5 := Lib.hid (HX4.out.later hB2)
  clear hst hn hB hB2 HB4 HM4 HP4 HS4 HU4 HR4 HX4
  go_upto_region 6 with ((with_reducible refine wp_store27 (o := ⟨none, .store 27 (.tmp 9) (.tmp 31), _, _, _, _⟩) ?_ (.tmp 9) (.tmp 31) ?_ u5.heap.size ?_ none1 rv ?_ rfl hone none1 (.slice none 0 0) rfl hnew ?_); (· rfl); (· rfl); (· rfl); (· rfl); simp only [Act.put, List.setIfInBounds_toArray, List.set_cons_zero, List.set_cons_succ])
  generalize (u5.alloc (.cells #[.string ⟨#[]⟩, .string ⟨#[]⟩, .string ⟨#[]⟩, .int .i64 0, .string ⟨#[]⟩, .int .i64 0, .int .i64 0, .int .i64 0, .int .i64 0, .int .i64 0, .int .i64 0, .int .i64 0, .int .i64 0, .int .i64 0, .int .i64 0, .slice none 0 0, .string ⟨#[]⟩, .string ⟨#[]⟩, .string ⟨#[]⟩, .bool false, .bool false] 27)).setRow u5.heap.size (cU none1 rv) = V5 at HB5 HM5 HP5 HS5 HU5 HR5 HX5 ⊢
  clear hnew hone
  have hu0 := HU5.out
  have hx0 := HX5.out
  go_wp2_with (first | ((with_reducible refine wp_load27 (o := ⟨some 46, .load 27 (.tmp 7), _, _, _, _⟩) ?_ (.tmp 7) ?_ g4 ?_ uX qv LX hx0 ?_); (· rfl); (· rfl); (· rfl); simp only [Act.put, List.setIfInBounds_toArray, List.set_cons_zero, List.set_cons_succ]) | ((with_reducible refine wp_load27 (o := ⟨some 47, .load 27 (.tmp 1), _, _, _, _⟩) ?_ (.tmp 1) ?_ g1 ?_ uT pv LT hu0 ?_); (· rfl); (· rfl); (· rfl); simp only [Act.put, List.setIfInBounds_toArray, List.set_cons_zero, List.set_cons_succ]))
  clear hu0 hx0
  refine (down_any uX uT qv pv uX_fit uT_fit true ex_down m _ HM5.out HR5.out HS5.out).mono ?_
  rintro e x6 ⟨rfl, hB⟩
  have HB6 := Lib.hid (below_trans HB5.out hB)
  have HM6 := Lib.hid (HM5.out.later hB)
  have HP6 := Lib.hid (HP5.out.later hB)
  have HS6 := Lib.hid (HS5.out.later hB)
  have HR6 := Lib.hid (HR5.out.later hB)
  have hu0 := HU5.out.later hB
  have hx0 := HX5.out.later hB
  clear hB HB5 HM5 HP5 HS5 HU5 HR5 HX5
  go_wp2_with (first | ((with_reducible refine wp_load27 (o := ⟨some 55, .load 27 (.tmp 7), _, _, _, _⟩) ?_ (.tmp 7) ?_ g4 ?_ uX qv LX hx0 ?_); (· rfl); (· rfl); (· rfl); simp only [Act.put, List.setIfInBounds_toArray, List.set_cons_zero, List.set_cons_succ]) | ((with_reducible refine wp_load27 (o := ⟨some 56, .load 27 (.tmp 1), _, _, _, _⟩) ?_ (.tmp 1) ?_ g1 ?_ uT pv LT hu0 ?_); (· rfl); (· rfl); (· rfl); simp only [Act.put, List.setIfInBounds_toArray, List.set_cons_zero, List.set_cons_succ]))
  clear hu0 hx0
  refine (level_any 8 uX uT qv pv uX_fit uT_fit 2 ex_level8 m _ HM6.out HR6.out HS6.out HP6.out).mono ?_
  rintro e x7 ⟨rfl, hB⟩
  have HB7 := Lib.hid (below_trans HB6.out hB)
  go_wp2
  go_ret
  exact ⟨rfl, HB7.out⟩

end Go.Proofs.YtbmnhmbicefemaaGreatDoor.Refer
