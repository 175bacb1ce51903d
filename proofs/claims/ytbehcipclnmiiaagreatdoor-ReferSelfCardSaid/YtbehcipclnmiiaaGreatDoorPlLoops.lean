/-
  Allowed(p, same, down), Most(p), Stricter(p, q).
-/
import Derived.Test.YtbehcipclnmiiaaGreatDoorPlRow
namespace Go.Proofs.YtbehcipclnmiiaaGreatDoor.Policy
set_option linter.unusedSimpArgs false
set_option linter.unusedVariables false
set_option maxRecDepth 100000


open Go.RowKit

set_option maxRecDepth 100000 in
set_option maxHeartbeats 2000000 in
theorem allow_any (p : Int) (s d : Bool) (w : World) (hT : TabAt w) : Calls Tryz.prog 34 #[.int .i64 p, .bool s, .bool d] w fun e w' => e = .returned (.int .i64 (allowI p s d)) ∧ Below w.heap.size w w' := by
  have cA := allowed_any p w hT
  have cW := fun u => way_any s d u
  have hj := way_lt s d
  clear hT
  show Calls Tryz.prog 34 #[.int .i64 p, .bool s, .bool d] w fun e w' => e = .returned (.int .i64 (lev (uN p) (wayN s d))) ∧ Below w.heap.size w w'
  generalize wayN s d = j at *
  generalize uN p = k at *
  go_enter Tryz.func34, Tryz.ntmps34
  go_wp2_with fail
  refine cA.mono ?_
  rintro e w1 ⟨rfl, hB⟩
  go_wp2_with fail
  refine (cW _).mono ?_
  rintro e w' ⟨rfl, rfl⟩
  go_wp2_with (refine wp_index4 rfl _ _ rfl k rfl j hj rfl ?_)
  go_ret
  exact ⟨rfl, hB⟩

end Go.Proofs.YtbehcipclnmiiaaGreatDoor.Policy
