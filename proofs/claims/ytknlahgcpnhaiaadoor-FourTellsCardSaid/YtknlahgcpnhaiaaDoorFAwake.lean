/-
  The chapter's examples answer as the chapter says (awake); what each law's text takes of the calls.
-/
import Derived.Test.YtknlahgcpnhaiaaDoorFParse
import Derived.Test.YtknlahgcpnhaiaaDoorFRefb
import Derived.Shelf.Abstract
namespace Go.Proofs.YtknlahgcpnhaiaaDoor.Four
open Go.RowKit
set_option linter.unusedSimpArgs false
set_option linter.unusedVariables false

/-- internal/bytealg.MaxLen holds an int. -/
def MaxAt (m : Int) (w : World) : Prop := w.cell? ⟨0, 0, none⟩ = some (.int .i64 m)
theorem MaxAt.later {m : Int} {w u : World} (h : MaxAt m w) (hB : Below w.heap.size w u) : MaxAt m u := by
  unfold MaxAt at *
  exact (hB.cell (p := ⟨0, 0, none⟩) (World.block_lt_of_cell? _ _ h)).trans h

theorem show_lit (n : Nat) (c : UInt8) (h : n < 10) (hc : c.toNat = 48 + n) : Deci.showN n = [c] := by
  rw [Deci.showN_lt h, Deci.digC_eq n h c hc]
theorem show_127 : Deci.showN 127 = [49, 50, 55] := by
  rw [Deci.showN_ge (by omega), show 127 / 10 = 12 by rfl, show 127 % 10 = 7 by rfl, Deci.showN_ge (by omega), show 12 / 10 = 1 by rfl, show 12 % 10 = 2 by rfl, Deci.showN_lt (by omega),
    Deci.digC_eq 1 (by omega) 49 rfl, Deci.digC_eq 2 (by omega) 50 rfl, Deci.digC_eq 7 (by omega) 55 rfl]
  rfl
theorem show4_ex : show4 2130706433 = [49, 50, 55, 46, 48, 46, 48, 46, 49] := by
  unfold show4
  simp only [Nat.reduceDiv, Nat.reduceMod]
  rw [show_127, show_lit 0 48 (by omega) rfl, show_lit 1 49 (by omega) rfl]
  rfl
theorem par_ex : parB [49, 50, 55, 46, 48, 46, 48, 46, 49] = true ∧ parI [49, 50, 55, 46, 48, 46, 48, 46, 49] = 2130706433 := by
  rw [← show4_ex]
  exact ⟨parB_show _ (by omega), parI_show _ (by omega)⟩
theorem par_04 : parB [49, 46, 50, 46, 51, 46, 48, 52] = false := by
  have hc : cuts [49, 46, 50, 46, 51, 46, 48, 52] = [[49], [50], [51], [48, 52]] := cuts_four [49] [50] [51] [48, 52] (by decide) (by decide) (by decide) (by decide) (by decide)
  have h0 : okB [48, 52] = false := by
    cases e : okB [48, 52]
    · rfl
    · have := ((okB_iff _).1 e).2.2.2
      rw [show Deci.valN [48, 52] = 4 by decide, show_lit 4 52 (by omega) rfl] at this
      cases this
  unfold parB
  rw [hc]
  show (okB _ && (okB _ && (okB _ && okB _))) = false
  rw [h0]
  simp
theorem showF_ex : showF 2130706433 = [49, 50, 55, 46, 48, 46, 48, 46, 49] := by
  rw [← show4_ex]
  rfl

theorem ex_parse1 (m : Int) (w : World) (hm : MaxAt m w) : Calls Tryd.prog 9 #[.string ⟨#[49, 50, 55, 46, 48, 46, 48, 46, 49]⟩] w fun e W' => e = .returned (.tuple #[.int .i64 2130706433, .bool true]) ∧ Below w.heap.size w W' :=
  parse_at ⟨#[49, 50, 55, 46, 48, 46, 48, 46, 49]⟩ (by decide) _ _ par_ex.2 par_ex.1 m w hm
theorem ex_parse2 (m : Int) (w : World) (hm : MaxAt m w) : Calls Tryd.prog 9 #[.string ⟨#[49, 46, 50, 46, 51, 46, 48, 52]⟩] w fun e W' => e = .returned (.tuple #[.int .i64 0, .bool false]) ∧ Below w.heap.size w W' :=
  parse_at ⟨#[49, 46, 50, 46, 51, 46, 48, 52]⟩ (by decide) _ _ (parI_none _ par_04) par_04 m w hm
theorem ex_show (w : World) : Calls Tryd.prog 13 #[.int .i64 2130706433] w fun e W' => e = .returned (.string ⟨#[49, 50, 55, 46, 48, 46, 48, 46, 49]⟩) ∧ Below w.heap.size w W' :=
  showF_at 2130706433 _ (by rw [showF_ex]) w
theorem ex_looks1 (w : World) : Calls Tryd.prog 15 #[.string ⟨#[97, 46, 49]⟩] w fun e W' => e = .returned (.bool true) ∧ w = W' := looks_at ⟨#[97, 46, 49]⟩ (by decide) true (by decide +kernel) w
theorem ex_looks2 (w : World) : Calls Tryd.prog 15 #[.string ⟨#[49, 46, 97]⟩] w fun e W' => e = .returned (.bool false) ∧ w = W' := looks_at ⟨#[49, 46, 97]⟩ (by decide) false (by decide +kernel) w
theorem ex_inner1 (w : World) : Calls Tryd.prog 16 #[.int .i64 2130706433] w fun e W' => e = .returned (.bool true) ∧ w = W' := inner_any 2130706433 w
theorem ex_inner2 (w : World) : Calls Tryd.prog 16 #[.int .i64 1] w fun e W' => e = .returned (.bool false) ∧ w = W' := inner_any 1 w

set_option maxRecDepth 100000 in
set_option maxHeartbeats 800000 in
theorem awake_calls (m : Int) (w : World) (hm0 : MaxAt m w) :
    Calls Tryd.prog 8 #[] w fun e W' => e = .returned (.bool true) ∧ Below w.heap.size w W' := by
  have hm := Lib.hid hm0
  clear hm0
  go_enter Tryd.func8, Tryd.ntmps8
  go_wp2_with fail
  refine (ex_parse1 m _ hm.out).mono ?_
  rintro e w1 ⟨rfl, hB1⟩
  go_wp2_with fail
  refine (ex_parse2 m _ (hm.out.later hB1)).mono ?_
  rintro e w2 ⟨rfl, hB2⟩
  go_wp2_with fail
  refine (ex_show _).mono ?_
  rintro e w3 ⟨rfl, hB3⟩
  have hB := Lib.hid (Deci.below3 hB1 hB2 hB3)
  clear hB1 hB2 hB3
  go_wp2_with fail
  refine (ex_looks1 _).mono ?_
  rintro e w4 ⟨rfl, rfl⟩
  go_wp2_with fail
  refine (ex_looks2 _).mono ?_
  rintro e w4 ⟨rfl, rfl⟩
  go_wp2_with fail
  refine (ex_inner1 _).mono ?_
  rintro e w4 ⟨rfl, rfl⟩
  go_wp2_with fail
  refine (ex_inner2 _).mono ?_
  rintro e w4 ⟨rfl, rfl⟩
  go_wp2
  go_ret
  exact ⟨rfl, hB.out⟩
end Go.Proofs.YtknlahgcpnhaiaaDoor.Four
