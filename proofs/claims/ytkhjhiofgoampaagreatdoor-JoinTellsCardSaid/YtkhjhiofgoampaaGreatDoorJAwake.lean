/-
  The chapter's example.
-/
import Derived.Test.YtkhjhiofgoampaaGreatDoorJRes
namespace Go.Proofs.YtkhjhiofgoampaaGreatDoor.Join
set_option linter.unusedSimpArgs false
set_option linter.unusedVariables false
set_option maxRecDepth 100000


open Go.RowKit Go.Shelf

open Url Show

open Host (none0 H okH parH showH)

open Path (Strs)

set_option maxRecDepth 100000

def wB : T := [104, 116, 116, 112, 58, 47, 47, 97, 46, 111, 114, 103, 47, 98, 47, 99, 47, 100, 35, 101]

def wR : T := [46, 46, 47, 120, 63, 121]

def uB : U := ⟨http, [], [], aH, -1, [[98], [99], [100]], [], [], [101], false, true⟩

def uR : U := ⟨http, [], [], aH, -1, [[98], [120]], [], [121], [], true, false⟩

def uI : U := ⟨http, [], [], aH, -1, [[98], [120]], [], [121], [101], true, true⟩

theorem wB_ok : okU wB = true := by decide +kernel

theorem wB_par : parU wB = uB := by
  have h1 : Ascii.clean wB = wB := by decide +kernel
  have h2 : okS wB = true := by decide +kernel
  have h3 : schS wB = http := by decide +kernel
  have h4 : schR wB = [47, 47, 97, 46, 111, 114, 103, 47, 98, 47, 99, 47, 100, 35, 101] := by decide +kernel
  have h5 : tA [47, 47, 97, 46, 111, 114, 103, 47, 98, 47, 99, 47, 100, 35, 101] = [47, 47, 97, 46, 111, 114, 103, 47, 98, 47, 99, 47, 100] := by decide +kernel
  have h6 : hname (place (auth [47, 47, 97, 46, 111, 114, 103, 47, 98, 47, 99, 47, 100])) = aorg := by decide +kernel
  unfold parU
  rw [h1]
  unfold parS aheadU
  rw [h2, if_pos rfl, h3, h4, h5, if_neg (by decide)]
  unfold tailU webU
  rw [h6, aorg_ok.2]
  unfold uB
  rw [U.mk.injEq]
  exact ⟨rfl, by decide +kernel, by decide +kernel, rfl, by decide +kernel, by decide +kernel, rfl, by decide +kernel, by decide +kernel, by decide +kernel, by decide +kernel⟩

theorem uB_may : mayU uB = true := by rw [← wB_par]; exact par_may _ wB_ok

theorem uB_res : okR uB wR = true ∧ resR uB wR = uR := by
  obtain ⟨h1, h2⟩ := res_bes uB_may (by decide) (s := wR) (s' := wR) (by decide +kernel) (by decide +kernel) (by decide +kernel)
  refine ⟨h1, h2.trans ?_⟩
  unfold besU uB uR
  rw [U.mk.injEq]
  exact ⟨rfl, rfl, rfl, rfl, rfl, by decide +kernel, rfl, by decide +kernel, by decide +kernel, by decide +kernel, by decide +kernel⟩

theorem uR_may : mayU uR = true := by rw [← uB_res.2]; exact res_may uB_res.1

theorem uI_may : mayU uI = true := by
  have h := uR_may
  unfold mayU tailB at h ⊢
  simp only [Bool.and_eq_true] at h ⊢
  exact ⟨⟨h.1.1, by decide +kernel⟩, h.2⟩

theorem uR_show : showU uR = [104, 116, 116, 112, 58, 47, 47, 97, 46, 111, 114, 103, 47, 98, 47, 120, 63, 121] := by
  unfold showU textU midT restT doorT portT
  rw [uR_may, show webI uR.sch = 80 from by decide, show uR.h = aH from rfl, aorg_show, show uR.port = -1 from rfl]
  decide

theorem uI_show : showU uI = [104, 116, 116, 112, 58, 47, 47, 97, 46, 111, 114, 103, 47, 98, 47, 120, 63, 121, 35, 101] := by
  unfold showU textU midT restT doorT portT
  rw [uI_may, show webI uI.sch = 80 from by decide, show uI.h = aH from rfl, aorg_show, show uI.port = -1 from rfl]
  decide

theorem uB_fit : Fit uB := ⟨rfl, by decide, by decide, by decide, by decide, by decide, by decide, by decide, by decide, by decide⟩

theorem uR_fit : Fit uR := ⟨rfl, by decide, by decide, by decide, by decide, by decide, by decide, by decide, by decide, by decide⟩

theorem uI_fit : Fit uI := ⟨rfl, by decide, by decide, by decide, by decide, by decide, by decide, by decide, by decide, by decide⟩

theorem ex_whole : wholeB [120, 58, 121] = true ∧ wholeB [47, 120, 58, 121] = false := by decide +kernel

set_option maxHeartbeats 16000000 in
theorem awake_calls (m : Int) (w : World) (hm : Six.At m w) : Calls Tryz.prog 9 #[] w fun e w' => e = .returned (.bool true) ∧ Below w.heap.size w w' := by
  have LB : uB.h.p.length = 8 := rfl
  have LR : uR.h.p.length = 8 := rfl
  have LI : uI.h.p.length = 8 := rfl
  have HB0 := Lib.hid (Below.refl w.heap.size w)
  have HM0 := Lib.hid hm
  clear hm
  go_enter Tryz.func9, Tryz.ntmps9
  go_wp2_with fail
  refine (parse_at wB (by decide) uB true wB_par wB_ok m w HM0.out).mono ?_
  rintro e u1 ⟨pv, rfl, hst, hn, hB⟩
  have hone := strs_one hst
  have hnew := new_url u1
  have hB2 := below_trans hB (below_url u1 uB pv)
  have HB1 := Lib.hid (below_trans HB0.out hB2)
  have HM1 := Lib.hid (HM0.out.later hB2)
  have HT1 := Lib.hid (hst.later (below_url u1 uB pv))
  have HV1 := Lib.hid (hnew.row uB pv)
  clear HB0 HM0 hst hn hB hB2
  have hu0 := HV1.out
  go_wp2_with (first | ((with_reducible refine wp_store27 (o := ⟨none, .store 27 (.tmp 1) (.tmp 8), _, _, _, _⟩) ?_ (.tmp 1) (.tmp 8) ?_ u1.heap.size ?_ uB pv ?_ LB hone none1 (.slice none 0 0) rfl hnew ?_); (· rfl); (· rfl); (· rfl); (· rfl); simp only [Act.put, List.setIfInBounds_toArray, List.set_cons_zero, List.set_cons_succ]) | ((with_reducible refine wp_load27 (o := ⟨some 11, .load 27 (.tmp 1), _, _, _, _⟩) ?_ (.tmp 1) ?_ u1.heap.size ?_ uB pv LB hu0 ?_); (· rfl); (· rfl); (· rfl); simp only [Act.put, List.setIfInBounds_toArray, List.set_cons_zero, List.set_cons_succ]))
  clear hu0
  generalize (u1.alloc (.cells #[.string ⟨#[]⟩, .string ⟨#[]⟩, .string ⟨#[]⟩, .int .i64 0, .string ⟨#[]⟩, .int .i64 0, .int .i64 0, .int .i64 0, .int .i64 0, .int .i64 0, .int .i64 0, .int .i64 0, .int .i64 0, .int .i64 0, .int .i64 0, .slice none 0 0, .string ⟨#[]⟩, .string ⟨#[]⟩, .string ⟨#[]⟩, .bool false, .bool false] 27)).setRow u1.heap.size (cU uB pv) = V1 at HB1 HM1 HT1 HV1 ⊢
  generalize u1.heap.size = g1 at HV1 ⊢
  clear hnew hone
  refine (resolve_any uB pv uB_fit (by decide) (by decide) ⟨#[46, 46, 47, 120, 63, 121]⟩ (by decide) true uB_res.1 uR uB_res.2 m _ HM1.out HT1.out).mono ?_
  rintro e u2 ⟨qv, rfl, hst, hn, hB⟩
  have hone := strs_one hst
  have hnew := new_url u2
  have hB2 := below_trans hB (below_url u2 uR qv)
  have HB2 := Lib.hid (below_trans HB1.out hB2)
  have HM2 := Lib.hid (HM1.out.later hB2)
  have HV2 := Lib.hid (HV1.out.later hB2)
  have HT2 := Lib.hid (HT1.out.later hB2)
  have HZ2 := Lib.hid (hst.later (below_url u2 uR qv))
  have HY2 := Lib.hid (hnew.row uR qv)
  clear HB1 HM1 HV1 HT1 hst hn hB hB2
  have hu0 := HY2.out
  have hu1 := HV2.out
  go_wp2_with (first | ((with_reducible refine wp_store27 (o := ⟨none, .store 27 (.tmp 3) (.tmp 13), _, _, _, _⟩) ?_ (.tmp 3) (.tmp 13) ?_ u2.heap.size ?_ uR qv ?_ LR hone none1 (.slice none 0 0) rfl hnew ?_); (· rfl); (· rfl); (· rfl); (· rfl); simp only [Act.put, List.setIfInBounds_toArray, List.set_cons_zero, List.set_cons_succ]) | ((with_reducible refine wp_load27 (o := ⟨some 15, .load 27 (.tmp 3), _, _, _, _⟩) ?_ (.tmp 3) ?_ u2.heap.size ?_ uR qv LR hu0 ?_); (· rfl); (· rfl); (· rfl); simp only [Act.put, List.setIfInBounds_toArray, List.set_cons_zero, List.set_cons_succ]) | ((with_reducible refine wp_load27 (o := ⟨some 16, .load 27 (.tmp 1), _, _, _, _⟩) ?_ (.tmp 1) ?_ g1 ?_ uB pv LB hu1 ?_); (· rfl); (· rfl); (· rfl); simp only [Act.put, List.setIfInBounds_toArray, List.set_cons_zero, List.set_cons_succ]))
  clear hu0 hu1
  generalize (u2.alloc (.cells #[.string ⟨#[]⟩, .string ⟨#[]⟩, .string ⟨#[]⟩, .int .i64 0, .string ⟨#[]⟩, .int .i64 0, .int .i64 0, .int .i64 0, .int .i64 0, .int .i64 0, .int .i64 0, .int .i64 0, .int .i64 0, .int .i64 0, .int .i64 0, .slice none 0 0, .string ⟨#[]⟩, .string ⟨#[]⟩, .string ⟨#[]⟩, .bool false, .bool false] 27)).setRow u2.heap.size (cU uR qv) = V2 at HB2 HM2 HV2 HT2 HZ2 HY2 ⊢
  generalize u2.heap.size = g2 at HY2 ⊢
  clear hnew hone
  refine (show Calls Tryz.prog 14 #[.agg (cU uR qv), .agg (cU uB pv)] _ (Got _ uI) from inherit_any uR uB qv pv uR_fit uB_fit _ HZ2.out HT2.out).mono ?_
  rintro e u3 ⟨rv, rfl, hst, hn, hB⟩
  have hone := strs_one hst
  have hnew := new_url u3
  have hB2 := below_trans hB (below_url u3 uI rv)
  have HB3 := Lib.hid (below_trans HB2.out hB2)
  have HM3 := Lib.hid (HM2.out.later hB2)
  have HV3 := Lib.hid (HV2.out.later hB2)
  have HT3 := Lib.hid (HT2.out.later hB2)
  have HY3 := Lib.hid (HY2.out.later hB2)
  have HZ3 := Lib.hid (HZ2.out.later hB2)
  have HJ3 := Lib.hid (hst.later (below_url u3 uI rv))
  have HI3 := Lib.hid (hnew.row uI rv)
  clear HB2 HM2 HV2 HT2 HY2 HZ2 hst hn hB hB2
  have hu0 := HY3.out
  go_wp2_with (first | ((with_reducible refine wp_store27 (o := ⟨none, .store 27 (.tmp 5) (.tmp 17), _, _, _, _⟩) ?_ (.tmp 5) (.tmp 17) ?_ u3.heap.size ?_ uI rv ?_ LI hone none1 (.slice none 0 0) rfl hnew ?_); (· rfl); (· rfl); (· rfl); (· rfl); simp only [Act.put, List.setIfInBounds_toArray, List.set_cons_zero, List.set_cons_succ]) | ((with_reducible refine wp_load27 (o := ⟨some 20, .load 27 (.tmp 3), _, _, _, _⟩) ?_ (.tmp 3) ?_ g2 ?_ uR qv LR hu0 ?_); (· rfl); (· rfl); (· rfl); simp only [Act.put, List.setIfInBounds_toArray, List.set_cons_zero, List.set_cons_succ]))
  clear hu0
  generalize (u3.alloc (.cells #[.string ⟨#[]⟩, .string ⟨#[]⟩, .string ⟨#[]⟩, .int .i64 0, .string ⟨#[]⟩, .int .i64 0, .int .i64 0, .int .i64 0, .int .i64 0, .int .i64 0, .int .i64 0, .int .i64 0, .int .i64 0, .int .i64 0, .int .i64 0, .slice none 0 0, .string ⟨#[]⟩, .string ⟨#[]⟩, .string ⟨#[]⟩, .bool false, .bool false] 27)).setRow u3.heap.size (cU uI rv) = V3 at HB3 HM3 HV3 HT3 HY3 HZ3 HJ3 HI3 ⊢
  generalize u3.heap.size = g3 at HI3 ⊢
  clear hnew hone
  refine (show_any uR qv uR_fit ⟨#[104, 116, 116, 112, 58, 47, 47, 97, 46, 111, 114, 103, 47, 98, 47, 120, 63, 121]⟩ (by rw [uR_show]; rfl) m _ HM3.out HZ3.out).mono ?_
  rintro e u4 ⟨rfl, hB⟩
  have HB4 := Lib.hid (below_trans HB3.out hB)
  have HM4 := Lib.hid (HM3.out.later hB)
  have HV4 := Lib.hid (HV3.out.later hB)
  have HT4 := Lib.hid (HT3.out.later hB)
  have HY4 := Lib.hid (HY3.out.later hB)
  have HZ4 := Lib.hid (HZ3.out.later hB)
  have HI4 := Lib.hid (HI3.out.later hB)
  have HJ4 := Lib.hid (HJ3.out.later hB)
  clear HB3 HM3 HV3 HT3 HY3 HZ3 HI3 HJ3
  clear hB
  have hu := HI4.out
  go_wp2_with ((with_reducible refine wp_load27 (o := ⟨some 25, .load 27 (.tmp 5), _, _, _, _⟩) ?_ (.tmp 5) ?_ g3 ?_ uI rv LI hu ?_); (· rfl); (· rfl); (· rfl); simp only [Act.put, List.setIfInBounds_toArray, List.set_cons_zero, List.set_cons_succ])
  refine (show_any uI rv uI_fit ⟨#[104, 116, 116, 112, 58, 47, 47, 97, 46, 111, 114, 103, 47, 98, 47, 120, 63, 121, 35, 101]⟩ (by rw [uI_show]; rfl) m _ HM4.out HJ4.out).mono ?_
  rintro e u5 ⟨rfl, hB⟩
  have HB5 := Lib.hid (below_trans HB4.out hB)
  have HM5 := Lib.hid (HM4.out.later hB)
  have HV5 := Lib.hid (HV4.out.later hB)
  have HT5 := Lib.hid (HT4.out.later hB)
  have HY5 := Lib.hid (HY4.out.later hB)
  have HZ5 := Lib.hid (HZ4.out.later hB)
  have HI5 := Lib.hid (HI4.out.later hB)
  have HJ5 := Lib.hid (HJ4.out.later hB)
  clear HB4 HM4 HV4 HT4 HY4 HZ4 HI4 HJ4
  clear hB hu
  go_wp2_with fail
  refine (whole_any ⟨#[120, 58, 121]⟩ (by decide) true ex_whole.1 m _ HM5.out).mono ?_
  rintro e u6 ⟨rfl, hB⟩
  have HB6 := Lib.hid (below_trans HB5.out hB)
  have HM6 := Lib.hid (HM5.out.later hB)
  have HV6 := Lib.hid (HV5.out.later hB)
  have HT6 := Lib.hid (HT5.out.later hB)
  have HY6 := Lib.hid (HY5.out.later hB)
  have HZ6 := Lib.hid (HZ5.out.later hB)
  have HI6 := Lib.hid (HI5.out.later hB)
  have HJ6 := Lib.hid (HJ5.out.later hB)
  clear HB5 HM5 HV5 HT5 HY5 HZ5 HI5 HJ5
  clear hB
  go_wp2_with fail
  refine (whole_any ⟨#[47, 120, 58, 121]⟩ (by decide) false ex_whole.2 m _ HM6.out).mono ?_
  rintro e u7 ⟨rfl, hB⟩
  go_wp2
  go_ret
  exact ⟨rfl, below_trans HB6.out hB⟩

end Go.Proofs.YtkhjhiofgoampaaGreatDoor.Join
