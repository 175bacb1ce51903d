/-
  The chapter's example.
-/
import Derived.Test.YtkjkcgbmfglihaaGreatDoorSHShow
namespace Go.Proofs.YtkjkcgbmfglihaaGreatDoor.Show
open Go.RowKit Go.Shelf
open Url
open Host (none0 showH)
open Path (Strs)
set_option linter.unusedSimpArgs false
set_option linter.unusedVariables false
set_option maxRecDepth 100000

def uS : U := ⟨http, [117], [], aH, 8080, [[97], []], [], [120], [], true, false⟩
def uZ : U := { none1 with hf := true }
def s1 : T := [104, 116, 116, 112, 58, 47, 47, 97, 46, 111, 114, 103, 58, 56, 48, 56, 48, 47, 97, 47, 63, 120]
def s2 : T := [104, 116, 116, 112, 58, 47, 47, 117, 64, 97, 46, 111, 114, 103, 58, 56, 48, 56, 48, 47, 97, 47, 63, 120]
def s3 : T := [97, 46, 111, 114, 103, 58, 56, 48, 56, 48]
theorem show8080 : Deci.showI 8080 = [56, 48, 56, 48] := by
  rw [Deci.showI_nonneg (by decide)]
  show Deci.showN 8080 = _
  simp [Deci.showN, Deci.digC]
theorem uS_may : mayU uS = true := by decide +kernel
theorem uS_door : doorU uS = s3 := by
  unfold doorU doorT portT
  rw [uS_may, show webI uS.sch = 80 from by decide, show uS.h = aH from rfl, aorg_show, show uS.port = 8080 from rfl, show8080]
  decide
theorem uS_show : showU uS = s2 := by
  unfold showU textU midT restT doorT portT
  rw [uS_may, show webI uS.sch = 80 from by decide, show uS.h = aH from rfl, aorg_show, show uS.port = 8080 from rfl, show8080]
  decide
theorem uS_open : showU (openU uS) = s1 := by
  unfold showU textU midT restT doorT portT
  rw [open_may uS_may, show webI (openU uS).sch = 80 from by decide, show (openU uS).h = aH from rfl, aorg_show, show (openU uS).port = 8080 from rfl, show8080]
  decide
theorem uS_fit : Fit uS := ⟨rfl, by decide, by decide, by decide, by decide, by decide, by decide, by decide, by decide, by decide⟩
theorem uSo_fit : Fit (openU uS) := ⟨rfl, by decide, by decide, by decide, by decide, by decide, by decide, by decide, by decide, by decide⟩
theorem uZ_fit : Fit uZ := ⟨rfl, by decide, by decide, by decide, by decide, by decide, by decide, by decide, by decide, by decide⟩
theorem strs_two (w : World) (a b : ByteArray) : Strs (w.alloc (.cells #[.string a, .string b] 9)) (.slice (some ⟨w.heap.size, 0, none⟩) 2 2) [a.data.toList, b.data.toList] := by
  refine ⟨_, 2, rfl, by simp, by unfold maxLen; omega, (fun e => by cases e), fun _ => ⟨w.heap.size, 0, rfl, fun j hj => ?_⟩⟩
  have h : (w.alloc (.cells #[.string a, .string b] 9)).heap[w.heap.size]? = some (.cells #[.string a, .string b] 9 (0, 0)) := heap_alloc_new w _
  rw [cell_of_row _ _ _ _ _ _ h]
  match j, hj with
  | 0, _ => simp
  | 1, _ => simp
theorem zS (pv : Value) : cU (bareU uZ) pv = #[.string ⟨#[]⟩, .string ⟨#[]⟩, .string ⟨#[]⟩, .int .i64 0, .string ⟨#[]⟩, .int .i64 0, .int .i64 0, .int .i64 0, .int .i64 0, .int .i64 0, .int .i64 0, .int .i64 0, .int .i64 0, .int .i64 0, .int .i64 0, pv, .string ⟨#[]⟩, .string ⟨#[]⟩, .string ⟨#[]⟩, .bool false, .bool false] := rfl
theorem zL (pv : Value) : (#[.string ⟨#[]⟩, .string ⟨#[]⟩, .string ⟨#[]⟩, .int .i64 0, .string ⟨#[]⟩, .int .i64 0, .int .i64 0, .int .i64 0, .int .i64 0, .int .i64 0, .int .i64 0, .int .i64 0, .int .i64 0, .int .i64 0, .int .i64 0, pv, .string ⟨#[]⟩, .string ⟨#[]⟩, .string ⟨#[]⟩, .bool false, .bool true] : Array Value) = cU uZ pv := rfl
set_option maxHeartbeats 16000000 in
theorem awake_calls (m : Int) (w : World) (hm : Six.At m w) : Calls Tryz.prog 24 #[] w fun e w' => e = .returned (.bool true) ∧ Below w.heap.size w w' := by
  have H8 : uS.h.p.length = 8 := rfl
  have hs1 : (w.alloc (.cells #[.string ⟨#[97]⟩, .string ⟨#[]⟩] 9)).heap.size = w.heap.size + 1 := Array.size_push _
  have hnew : UrlAt ((w.alloc (.cells #[.string ⟨#[97]⟩, .string ⟨#[]⟩] 9)).alloc (.cells #[.string ⟨#[]⟩, .string ⟨#[]⟩, .string ⟨#[]⟩, .int .i64 0, .string ⟨#[]⟩, .int .i64 0, .int .i64 0, .int .i64 0, .int .i64 0, .int .i64 0, .int .i64 0, .int .i64 0, .int .i64 0, .int .i64 0, .int .i64 0, .slice none 0 0, .string ⟨#[]⟩, .string ⟨#[]⟩, .string ⟨#[]⟩, .bool false, .bool false] 27)) (w.heap.size + 1) none1 (.slice none 0 0) := by
    rw [← hs1]; exact UrlAt.new _ none1 (.slice none 0 0)
  have hB1 := (Below.refl w.heap.size w).alloc (Nat.le_refl _) (.cells #[.string ⟨#[97]⟩, .string ⟨#[]⟩] 9)
  have hb2 : Below (w.heap.size + 1) (w.alloc (.cells #[.string ⟨#[97]⟩, .string ⟨#[]⟩] 9)) (((w.alloc (.cells #[.string ⟨#[97]⟩, .string ⟨#[]⟩] 9)).alloc (.cells #[.string ⟨#[]⟩, .string ⟨#[]⟩, .string ⟨#[]⟩, .int .i64 0, .string ⟨#[]⟩, .int .i64 0, .int .i64 0, .int .i64 0, .int .i64 0, .int .i64 0, .int .i64 0, .int .i64 0, .int .i64 0, .int .i64 0, .int .i64 0, .slice none 0 0, .string ⟨#[]⟩, .string ⟨#[]⟩, .string ⟨#[]⟩, .bool false, .bool false] 27)).setRow (w.heap.size + 1) (cU uS (.slice (some ⟨w.heap.size, 0, none⟩) 2 2))) := by
    rw [← hs1]; exact below_row ((Below.refl _ _).alloc (Nat.le_refl _) _) (Nat.le_refl _) _
  have HU := Lib.hid (hnew.row uS (.slice (some ⟨w.heap.size, 0, none⟩) 2 2))
  have HS := Lib.hid ((strs_two w ⟨#[97]⟩ ⟨#[]⟩).later (hb2.mono (Nat.le_of_eq hs1)))
  have HB := Lib.hid (hB1.trans (hb2.mono (by omega)))
  have HM := Lib.hid (hm.later HB.out)
  clear hB1 hb2 hs1 hm
  go_enter Tryz.func24, Tryz.ntmps24
  go_wp2_with (first
    | ((with_reducible refine wp_store27 (o := ⟨none, .store 27 (.tmp 1) (.tmp 4), _, _, _, _⟩) ?_ (.tmp 1) (.tmp 4) ?_ (w.heap.size + 1) ?_ uS (.slice (some ⟨w.heap.size, 0, none⟩) 2 2) ?_ H8 rfl none1 (.slice none 0 0) rfl hnew ?_); (· rfl); (· rfl); (· rfl); (· rfl); simp only [Act.put, List.setIfInBounds_toArray, List.set_cons_zero, List.set_cons_succ])
    | ((with_reducible refine wp_load27 (o := ⟨some 5, .load 27 (.tmp 1), _, _, _, _⟩) ?_ (.tmp 1) ?_ (w.heap.size + 1) ?_ uS (.slice (some ⟨w.heap.size, 0, none⟩) 2 2) H8 HU.out ?_); (· rfl); (· rfl); (· rfl); simp only [Act.put, List.setIfInBounds_toArray, List.set_cons_zero, List.set_cons_succ]))
  generalize ((w.alloc (.cells #[.string ⟨#[97]⟩, .string ⟨#[]⟩] 9)).alloc (.cells #[.string ⟨#[]⟩, .string ⟨#[]⟩, .string ⟨#[]⟩, .int .i64 0, .string ⟨#[]⟩, .int .i64 0, .int .i64 0, .int .i64 0, .int .i64 0, .int .i64 0, .int .i64 0, .int .i64 0, .int .i64 0, .int .i64 0, .int .i64 0, .slice none 0 0, .string ⟨#[]⟩, .string ⟨#[]⟩, .string ⟨#[]⟩, .bool false, .bool false] 27)).setRow (w.heap.size + 1) (cU uS (.slice (some ⟨w.heap.size, 0, none⟩) 2 2)) = v0 at HU HS HB HM ⊢
  clear hnew
  refine (open_any uS _ uS_fit v0 HS.out).mono ?_
  rintro e v1 ⟨qv, rfl, hst, hn, hB⟩
  have HU1 := Lib.hid (HU.out.later hB)
  have HS1 := Lib.hid (HS.out.later hB)
  have HM1 := Lib.hid (HM.out.later hB)
  have HB1 := Lib.hid (Ascii.below2 HB.out hB)
  clear HU HS HM HB hn hB
  go_wp2_with fail
  refine (show_any (openU uS) qv uSo_fit ⟨#[104, 116, 116, 112, 58, 47, 47, 97, 46, 111, 114, 103, 58, 56, 48, 56, 48, 47, 97, 47, 63, 120]⟩ (by rw [uS_open]; rfl) m v1 HM1.out hst).mono ?_
  rintro e v2 ⟨rfl, hB⟩
  have HU2 := HU1.out.later hB
  have HS2 := Lib.hid (HS1.out.later hB)
  have HM2 := Lib.hid (HM1.out.later hB)
  have HB2 := Lib.hid (Ascii.below2 HB1.out hB)
  clear HU1 HS1 HM1 HB1 hB hst
  go_wp2_with ((with_reducible refine wp_load27 (o := ⟨some 10, .load 27 (.tmp 1), _, _, _, _⟩) ?_ (.tmp 1) ?_ (w.heap.size + 1) ?_ uS (.slice (some ⟨w.heap.size, 0, none⟩) 2 2) H8 HU2 ?_); (· rfl); (· rfl); (· rfl); simp only [Act.put, List.setIfInBounds_toArray, List.set_cons_zero, List.set_cons_succ])
  refine (show_any uS _ uS_fit ⟨#[104, 116, 116, 112, 58, 47, 47, 117, 64, 97, 46, 111, 114, 103, 58, 56, 48, 56, 48, 47, 97, 47, 63, 120]⟩ (by rw [uS_show]; rfl) m v2 HM2.out HS2.out).mono ?_
  rintro e v3 ⟨rfl, hB⟩
  have HU3 := HU2.later hB
  have HS3 := Lib.hid (HS2.out.later hB)
  have HM3 := Lib.hid (HM2.out.later hB)
  have HB3 := Lib.hid (Ascii.below2 HB2.out hB)
  clear HU2 HS2 HM2 HB2 hB
  go_wp2_with ((with_reducible refine wp_load27 (o := ⟨some 15, .load 27 (.tmp 1), _, _, _, _⟩) ?_ (.tmp 1) ?_ (w.heap.size + 1) ?_ uS (.slice (some ⟨w.heap.size, 0, none⟩) 2 2) H8 HU3 ?_); (· rfl); (· rfl); (· rfl); simp only [Act.put, List.setIfInBounds_toArray, List.set_cons_zero, List.set_cons_succ])
  refine (door_any uS _ uS_fit ⟨#[97, 46, 111, 114, 103, 58, 56, 48, 56, 48]⟩ (by rw [uS_door]; rfl) m v3 HM3.out HS3.out).mono ?_
  rintro e v4 ⟨rfl, hB⟩
  have HB4 := Lib.hid (Ascii.below2 HB3.out hB)
  clear HU3 HS3 HM3 HB3 hB
  go_wp2_with fail
  rw [zL]
  refine (bare_any uZ _ uZ_fit v4 (Strs.nil v4)).mono ?_
  rintro e v5 ⟨rv, rfl, hst, _, hB⟩
  have hfd : ∀ w : World, (Instr.field 27 (.agg (cU (bareU uZ) rv)) 10).run Tryz.prog w = .ok (.bool false) w := fun _ => by kernel_rfl
  go_wp2
  go_ret
  exact ⟨rfl, Ascii.below2 HB4.out hB⟩
end Go.Proofs.YtkjkcgbmfglihaaGreatDoor.Show
