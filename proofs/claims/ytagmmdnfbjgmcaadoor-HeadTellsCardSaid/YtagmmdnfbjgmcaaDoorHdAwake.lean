/-
  The chapter's example.
-/
import Derived.Test.YtagmmdnfbjgmcaaDoorHdParse
namespace Go.Proofs.YtagmmdnfbjgmcaaDoor.Head
set_option linter.unusedSimpArgs false
set_option linter.unusedVariables false
set_option maxRecDepth 100000


open Go.RowKit Go.Shelf

open Url

open Path (Strs tx infoText MaxAt)


def exF : List F := [([97], [49]), ([65], [50])]

def exR : T := [97, 58, 32, 49, 13, 10, 65, 58, 50, 9, 13, 10]

theorem ex_parse : parseL exR = some exF := by
  rw [show exR = [97, 58, 32, 49] ++ 13 :: 10 :: ([65, 58, 50, 9] ++ 13 :: 10 :: []) from rfl, parse_end (fst_no (by decide)), parse_end (fst_no (by decide)), parse_nil]
  decide +kernel

theorem ex_get : getT exF [97] = [49, 44, 32, 50] := by decide +kernel

theorem ex_has : getB exF [97] = true := by decide +kernel

theorem ex_all : allL exF [65] = [[49], [50]] := by decide +kernel

theorem ex_set : setL exF [97] [51] = [([97], [51])] := by decide +kernel

theorem ex_drop : dropL exF [[98], [65]] = [] := by decide +kernel

theorem ex_n1 : nameB [120, 45, 121] = true := by decide +kernel

theorem ex_n2 : nameB [] = false := by decide +kernel

theorem ex_v1 : valB [97, 32, 98] = true := by decide +kernel

theorem ex_v2 : valB [32, 97] = false := by decide +kernel

theorem ex_few : ∀ f ∈ exF, f.1.length ≤ 1000000 ∧ f.2.length ≤ 1000000 := by decide

theorem strs_two (w : World) (a b : ByteArray) : Strs (w.alloc (.cells #[.string a, .string b] 9)) (.slice (some ⟨w.heap.size, 0, none⟩) 2 2) [a.data.toList, b.data.toList] := by
  refine ⟨_, 2, rfl, by simp, by unfold maxLen; omega, (fun e => by cases e), fun _ => ⟨w.heap.size, 0, rfl, fun j hj => ?_⟩⟩
  have h : (w.alloc (.cells #[.string a, .string b] 9)).heap[w.heap.size]? = some (.cells #[.string a, .string b] 9 (0, 0)) := heap_alloc_new w _
  rw [cell_of_row _ _ _ _ _ _ h]
  match j, hj with
  | 0, _ => simp
  | 1, _ => simp

set_option maxRecDepth 100000 in
set_option maxHeartbeats 8000000 in
theorem awake_calls (m : Int) (w : World) (hm : MaxAt m w) :
    Calls Tryd.prog 9 #[] w fun e w' => e = .returned (.bool true) ∧ Below w.heap.size w w' := by
  have cP := parse_any ⟨#[97, 58, 32, 49, 13, 10, 65, 58, 50, 9, 13, 10]⟩ (by decide) m w hm
  rw [show parseB (⟨#[97, 58, 32, 49, 13, 10, 65, 58, 50, 9, 13, 10]⟩ : ByteArray).data.toList = true by unfold parseB; rw [show (⟨#[97, 58, 32, 49, 13, 10, 65, 58, 50, 9, 13, 10]⟩ : ByteArray).data.toList = exR from rfl, ex_parse]; rfl,
    show parseF (⟨#[97, 58, 32, 49, 13, 10, 65, 58, 50, 9, 13, 10]⟩ : ByteArray).data.toList = exF by unfold parseF; rw [show (⟨#[97, 58, 32, 49, 13, 10, 65, 58, 50, 9, 13, 10]⟩ : ByteArray).data.toList = exR from rfl, ex_parse]; rfl] at cP
  have n1 := fun u => name_any ⟨#[120, 45, 121]⟩ (by decide) u
  rw [show (⟨#[120, 45, 121]⟩ : ByteArray).data.toList = [120, 45, 121] from rfl, ex_n1] at n1
  have n2 := fun u => name_any ⟨#[]⟩ (by decide) u
  rw [show (⟨#[]⟩ : ByteArray).data.toList = [] from rfl, ex_n2] at n2
  have v1 := fun u => value_any ⟨#[97, 32, 98]⟩ (by decide) u
  rw [show (⟨#[97, 32, 98]⟩ : ByteArray).data.toList = [97, 32, 98] from rfl, ex_v1] at v1
  have v2 := fun u => value_any ⟨#[32, 97]⟩ (by decide) u
  rw [show (⟨#[32, 97]⟩ : ByteArray).data.toList = [32, 97] from rfl, ex_v2] at v2
  go_enter Tryd.func9, Tryd.ntmps9
  go_wp2_with fail
  refine cP.mono ?_
  rintro e w1 ⟨v, rfl, hF, hB1⟩
  have hF' := hF
  obtain ⟨a, c, rfl, -⟩ := hF'
  have hl2 : exF.length = 2 := rfl
  rw [hl2] at hF ⊢
  have cG := get_any _ exF (by decide) ex_few ⟨#[97]⟩ (by decide) w1 hF
  rw [show (⟨#[97]⟩ : ByteArray).data.toList = [97] from rfl, ex_get, ex_has] at cG
  go_wp2_with fail
  refine cG.mono ?_
  rintro e w2 ⟨rfl, hB2⟩
  have hb2 := Ascii.below2 hB1 hB2
  have q0 : ((tb [49, 44, 32, 50]).toList == [49, 44, 32, 50]) = true := by rw [tb_toList]; rfl
  clear cP cG
  generalize tb [49, 44, 32, 50] = X at q0 ⊢
  go_wp2_with fail
  refine (n1 _).mono ?_
  rintro e w' ⟨rfl, hw⟩
  rw [← hw]
  clear hw w'
  go_wp2_with fail
  refine (n2 _).mono ?_
  rintro e w' ⟨rfl, hw⟩
  rw [← hw]
  clear hw w'
  go_wp2_with fail
  refine (v1 _).mono ?_
  rintro e w3 ⟨rfl, hB3⟩
  have hb3 := Ascii.below2 hb2 hB3
  go_wp2_with fail
  refine (v2 _).mono ?_
  rintro e w4 ⟨rfl, hB4⟩
  have hb4 := Ascii.below2 hb3 hB4
  have hF4 := ((hF.later hB2).later hB3).later hB4
  clear hF hB1 hB2 hB3 hB4 hb2 hb3 n1 n2 v1 v2
  go_wp2_with fail
  have cA := all_any _ exF (by decide) ex_few ⟨#[65]⟩ (by decide) w4 hF4
  rw [show (⟨#[65]⟩ : ByteArray).data.toList = [65] from rfl, ex_all] at cA
  refine cA.mono ?_
  rintro e w5 ⟨v5, rfl, hS5, hB5⟩
  obtain ⟨a5, c5, rfl, -⟩ := hS5
  have hb5 := Ascii.below2 hb4 hB5
  have hF5 := hF4.later hB5
  go_wp2_with fail
  have cS := set_any _ exF (by decide) ex_few ⟨#[97]⟩ ⟨#[51]⟩ (by decide) (by decide) w5 hF5
  rw [show (⟨#[97]⟩ : ByteArray).data.toList = [97] from rfl, show (⟨#[51]⟩ : ByteArray).data.toList = [51] from rfl, ex_set] at cS
  refine cS.mono ?_
  rintro e w6 ⟨v6, rfl, hS6, hB6⟩
  obtain ⟨a6, c6, rfl, -⟩ := hS6
  have hb6 := Ascii.below2 hb5 hB6
  have hF6 := hF5.later hB6
  have hF6a := hF6.later ((Below.refl _ w6).alloc (Nat.le_refl _) (.cells #[.string ⟨#[98]⟩, .string ⟨#[65]⟩] 9))
  have cD := drop_any _ exF (by decide) ex_few _ _ (by simp) (by decide) _ hF6a (strs_two w6 ⟨#[98]⟩ ⟨#[65]⟩)
  rw [show (⟨#[98]⟩ : ByteArray).data.toList = [98] from rfl, show (⟨#[65]⟩ : ByteArray).data.toList = [65] from rfl, ex_drop] at cD
  clear cA cS hF4 hF5 hB5 hB6 hb4 hb5
  go_wp2_with fail
  refine cD.mono ?_
  rintro e w7 ⟨v7, rfl, hS7, hB7⟩
  obtain ⟨a7, c7, rfl, -⟩ := hS7
  have hb7 := Ascii.below2 (hb6.alloc hb6.size _) hB7
  have hF7 := hF6a.later hB7
  clear cD hF6 hF6a hB7 hb6
  go_wp2_with fail
  refine (same_any _ _ exF exF w7 hF7 hF7).mono ?_
  rintro e w8 ⟨rfl, hB8⟩
  have hb8 := Ascii.below2 hb7 hB8
  have hd : decide (exF = exF) = true := decide_eq_true rfl
  rw [hd]
  go_wp2
  go_ret
  exact ⟨rfl, hb8⟩

end Go.Proofs.YtagmmdnfbjgmcaaDoor.Head
