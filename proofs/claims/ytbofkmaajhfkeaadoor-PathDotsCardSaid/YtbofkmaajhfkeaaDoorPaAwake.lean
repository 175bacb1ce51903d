/-
  The chapter's examples answer as the chapter says (awake); what each law's text takes of the calls.
-/
import Derived.Test.YtbofkmaajhfkeaaDoorPaMerge
import Derived.Test.YtbofkmaajhfkeaaDoorPaShow
namespace Go.Proofs.YtbofkmaajhfkeaaDoor.Path
open Go.RowKit Go.Shelf
set_option linter.unusedSimpArgs false
set_option linter.unusedVariables false

theorem strs1 {W : World} {v : Value} {x : T} (h : Strs W v [x]) : ∃ b o c, v = .slice (some ⟨b, o, none⟩) 1 c ∧ 1 ≤ c ∧ c ≤ maxLen ∧ W.cell? ⟨b, o, none⟩ = some (.string ⟨x.toArray⟩) := by
  obtain ⟨a, c, rfl, h1, h2, h3, h4⟩ := h
  obtain ⟨b, o, rfl, hc⟩ := h4 (by simp)
  exact ⟨b, o, c, rfl, h1, h2, hc 0 (by simp)⟩
theorem strs2 {W : World} {v : Value} {x y : T} (h : Strs W v [x, y]) : ∃ b o c, v = .slice (some ⟨b, o, none⟩) 2 c ∧ 2 ≤ c ∧ c ≤ maxLen ∧ W.cell? ⟨b, o, none⟩ = some (.string ⟨x.toArray⟩) ∧ W.cell? ⟨b, o + 1, none⟩ = some (.string ⟨y.toArray⟩) := by
  obtain ⟨a, c, rfl, h1, h2, h3, h4⟩ := h
  obtain ⟨b, o, rfl, hc⟩ := h4 (by simp)
  exact ⟨b, o, c, rfl, h1, h2, hc 0 (by simp), hc 1 (by simp)⟩
theorem strs_new2 (W : World) (x y : T) : Strs (W.alloc (.cells #[.string ⟨x.toArray⟩, .string ⟨y.toArray⟩] 9)) (.slice (some ⟨W.heap.size, 0, none⟩) 2 2) [x, y] := by
  refine ⟨_, 2, rfl, Nat.le_refl _, by decide, (fun e => by cases e), fun _ => ⟨W.heap.size, 0, rfl, fun j hj => ?_⟩⟩
  have h := World.alloc_heap_new W (.cells #[.string ⟨x.toArray⟩, .string ⟨y.toArray⟩] 9)
  rw [World.cell?, h]
  match j, hj with
  | 0, _ => rfl
  | 1, _ => rfl

theorem ex_parse1 : parse [47, 97, 47, 46, 47, 98, 47, 46, 46, 47, 99] = [[97], [99]] := by decide +kernel
theorem ex_parse2 : parse [47, 97, 47, 46, 46] = [[]] := by decide +kernel
theorem ex_merge : merge [[97], [99]] [100] = [[97], [100]] := by decide +kernel
theorem ex_show : show1 [[97], [99]] = [47, 97, 47, 99] := by decide +kernel
theorem ex_may : mayP [[97], [99]] = true := by decide +kernel
theorem ex_norm : norm [] [[46], [97]] = [[97]] := by decide +kernel
theorem ex_dots : dotsN [37, 50, 69, 46] = 2 := by decide +kernel

set_option maxRecDepth 100000 in
set_option maxHeartbeats 2000000 in
theorem awake_calls (m : Int) (w : World) (hm : MaxAt m w) :
    Calls Tryd.prog 9 #[] w fun e W' => e = .returned (.bool true) ∧ Below w.heap.size w W' := by
  go_enter Tryd.func9, Tryd.ntmps9
  go_wp2_with fail
  refine (parse_any ⟨#[47, 97, 47, 46, 47, 98, 47, 46, 46, 47, 99]⟩ (by decide) m w hm).mono ?_
  rintro e w1 ⟨v1, rfl, hs1, hB1⟩
  rw [show (⟨#[47, 97, 47, 46, 47, 98, 47, 46, 46, 47, 99]⟩ : ByteArray).data.toList = [47, 97, 47, 46, 47, 98, 47, 46, 46, 47, 99] from rfl, ex_parse1] at hs1
  have hz1 := hB1.size
  go_wp2_with fail
  refine (parse_any ⟨#[47, 97, 47, 46, 46]⟩ (by decide) m w1 (hm.later hB1)).mono ?_
  rintro e w2 ⟨v2, rfl, hs2, hB2⟩
  rw [show (⟨#[47, 97, 47, 46, 46]⟩ : ByteArray).data.toList = [47, 97, 47, 46, 46] from rfl, ex_parse2] at hs2
  have hs1 := hs1.later hB2
  have hB2 := hB1.trans (hB2.mono hz1)
  have hz2 := hB2.size
  go_wp2_with fail
  refine (merge_any v1 _ (by decide) (by decide) ⟨#[100]⟩ (by decide) m w2 (hm.later hB2) hs1).mono ?_
  rintro e w3 ⟨v3, rfl, hs3, hB3⟩
  rw [show (⟨#[100]⟩ : ByteArray).data.toList = [100] from rfl, ex_merge] at hs3
  have hs1 := hs1.later hB3
  have hs2 := hs2.later hB3
  have hB3 := hB2.trans (hB3.mono hz2)
  have hz3 := hB3.size
  have HS1 := Lib.hid hs1
  have HS3 := Lib.hid hs3
  obtain ⟨b1, o1, c1, rfl, l1, m1, f1, g1⟩ := strs2 hs1
  obtain ⟨b2, o2, c2, rfl, l2, m2, f2⟩ := strs1 hs2
  obtain ⟨b3, o3, c3, rfl, l3, m3, _, _⟩ := strs2 hs3
  clear hs1 hs2 hs3
  unfold maxLen at m1 m2 m3
  go_wp2_with fail
  refine (show_any _ [[97], [99]] (by decide) (by decide) w3 HS1.out).mono ?_
  rintro e w4 ⟨rfl, hB4⟩
  rw [ex_show]
  have HS1 := Lib.hid (HS1.out.later hB4)
  have HS3 := Lib.hid (HS3.out.later hB4)
  have hB4 := hB3.trans (hB4.mono hz3)
  have hz4 := hB4.size
  go_wp2_with fail
  refine (may_any _ [[97], [99]] (by decide) (by decide) m w4 (hm.later hB4) HS1.out).mono ?_
  rintro e w5 ⟨rfl, hB5⟩
  rw [ex_may]
  have HS3 := Lib.hid (HS3.out.later hB5)
  have hB5 := hB4.trans (hB5.mono hz4)
  have hz5 := hB5.size
  go_wp2_with fail
  refine (dots_any ⟨#[37, 50, 69, 46]⟩ (by decide) m w5 (hm.later hB5)).mono ?_
  rintro e w6 ⟨rfl, hB6⟩
  rw [show (⟨#[37, 50, 69, 46]⟩ : ByteArray).data.toList = [37, 50, 69, 46] from rfl, ex_dots]
  have hs3 := HS3.out.later hB6
  have hB6 := hB5.trans (hB6.mono hz5)
  have hz6 := hB6.size
  obtain ⟨b3', o3', c3', e3, _, _, f3, g3⟩ := strs2 hs3
  cases e3
  clear hs3
  go_wp2_with fail
  refine (norm_any _ [[46], [97]] (by decide) (by decide) m _ (hm.later (hB6.alloc hz6 _)) (strs_new2 w6 [46] [97])).mono ?_
  rintro e w7 ⟨v7, rfl, hs7, hB7⟩
  rw [ex_norm] at hs7
  obtain ⟨b7, o7, c7, rfl, _, _, _⟩ := strs1 hs7
  have hB7 := (hB6.alloc hz6 _).trans (hB7.mono (by simp; omega))
  clear hs7
  go_wp2
  go_ret
  exact ⟨rfl, hB7⟩

theorem awake_at {m : Int} {w : World} (hm : MaxAt m w) : Calls Tryd.prog 9 #[] w fun e w' => e = .returned (.bool true) ∧ Below w.heap.size w w' := awake_calls m w hm
theorem text_append (s t : ByteArray) : (s ++ t).data.toList = s.data.toList ++ t.data.toList := by
  rw [ByteArray.data_append, Array.toList_append]

end Go.Proofs.YtbofkmaajhfkeaaDoor.Path
