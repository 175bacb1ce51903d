/-
  Allowed(p, same, down), Most(p), Stricter(p, q).
-/
import Derived.Test.YtbmnhmbicefemaaGreatDoorPlRow
namespace Go.Proofs.YtbmnhmbicefemaaGreatDoor.Policy
set_option linter.unusedSimpArgs false
set_option linter.unusedVariables false
set_option maxRecDepth 100000


open Go.RowKit

set_option maxRecDepth 100000 in
set_option maxHeartbeats 2000000 in
theorem allow_any (p : Int) (s d : Bool) (w : World) (hT : TabAt w) : Calls Tryz.prog 37 #[.int .i64 p, .bool s, .bool d] w fun e w' => e = .returned (.int .i64 (allowI p s d)) ∧ Below w.heap.size w w' := by
  have cA := allowed_any p w hT
  have cW := fun u => way_any s d u
  have hj := way_lt s d
  clear hT
  show Calls Tryz.prog 37 #[.int .i64 p, .bool s, .bool d] w fun e w' => e = .returned (.int .i64 (lev (uN p) (wayN s d))) ∧ Below w.heap.size w w'
  generalize wayN s d = j at *
  generalize uN p = k at *
  go_enter Tryz.func37, Tryz.ntmps37
  go_wp2_with fail
  refine cA.mono ?_
  rintro e w1 ⟨rfl, hB⟩
  go_wp2_with fail
  refine (cW _).mono ?_
  rintro e w' ⟨rfl, rfl⟩
  go_wp2_with (refine wp_index4 rfl _ _ rfl k rfl j hj rfl ?_)
  go_ret
  exact ⟨rfl, hB⟩

set_option maxRecDepth 100000 in
set_option maxHeartbeats 2000000 in
theorem most_any (p : Int) (w : World) (hT : TabAt w) : Calls Tryz.prog 21 #[.int .i64 p] w fun e w' => e = .returned (.int .i64 (mostI p)) ∧ Below w.heap.size w w' := by
  have cA := allowed_any p w hT
  clear hT
  show Calls Tryz.prog 21 #[.int .i64 p] w fun e w' => e = .returned (.int .i64 (mostTo (uN p) 4)) ∧ Below w.heap.size w w'
  generalize uN p = k at *
  go_enter Tryz.func21, Tryz.ntmps21
  go_wp2_with fail
  refine cA.mono ?_
  rintro e w1 ⟨rfl, hB⟩
  have hz := hB.size
  have HR := Lib.hid (RowAt.new w1 0)
  have HB := Lib.hid (below_setRow (hB.alloc hz (.cells (arr 0) 60)) hz (arr k))
  have HW := Lib.hid (HR.out.row k)
  clear cA hB
  go_wp2_with (refine wp_store4 rfl _ _ rfl _ rfl k rfl 0 HR.out ?_)
  rw [zero_arr]
  generalize (w1.alloc (.cells (arr 0) 60)).setRow w1.heap.size (arr k) = W at HB HW ⊢
  clear HR hz
  generalize w1.heap.size = g at HW ⊢
  go_wp2
  go_loopw [3, 5, 8] (fun m _ i wr => ∃ j : Nat, j ≤ 4 ∧ i = .int .i64 j ∧ m = .int .i64 (mostTo k j) ∧ wr = W) (fun _ _ i _ => 4 - (intOf i).toNat)
  case atStart => exact ⟨0, Nat.zero_le _, rfl, rfl, rfl⟩
  case round =>
    obtain ⟨j, hj, rfl, rfl, rfl⟩ := hrel
    by_cases hlt : j < 4
    · have t1 : decide ((j : Int) < 4) = true := decide_eq_true (by omega)
      have hc := HW.out.cell j hlt
      have hm : mostTo k (j + 1) = max (mostTo k j) (lev k j) := rfl
      have hs := lev_small k j
      generalize lev k j = l at *
      go_wp2
      go_roundw
      case rel => exact ⟨j + 1, by omega, by go_num, by rw [hm]; congr 1; split <;> omega, trivial⟩
      case measure => simp [intOf]; omega
    · obtain rfl : j = 4 := by omega
      have t1 : decide ((4 : Int) < 4) = false := rfl
      go_wp2
      go_ret
      exact ⟨rfl, HB.out⟩

set_option maxRecDepth 100000 in
set_option maxHeartbeats 2000000 in
theorem strict_any (p q : Int) (w : World) (hT : TabAt w) : Calls Tryz.prog 24 #[.int .i64 p, .int .i64 q] w fun e w' => e = .returned (.bool (strictB p q)) ∧ Below w.heap.size w w' := by
  have cA := allowed_any p w hT
  have cB := fun u (hu : TabAt u) => allowed_any q u hu
  have HT := Lib.hid hT
  clear hT
  show Calls Tryz.prog 24 #[.int .i64 p, .int .i64 q] w fun e w' => e = .returned (.bool (strictTo (uN p) (uN q) 4)) ∧ Below w.heap.size w w'
  generalize uN p = k at *
  generalize uN q = l at *
  go_enter Tryz.func24, Tryz.ntmps24
  go_wp2_with fail
  refine cA.mono ?_
  rintro e w1 ⟨rfl, hB1⟩
  go_wp2_with fail
  refine (cB _ (HT.out.later hB1)).mono ?_
  rintro e w2 ⟨rfl, hB2⟩
  have hB := hB1.trans (hB2.mono hB1.size)
  have hz := hB.size
  have HR1 := Lib.hid ((RowAt.new w2 0).past (.cells (arr 0) 60))
  have HR2 := Lib.hid (RowAt.new (w2.alloc (.cells (arr 0) 60)) 0)
  clear cA cB HT hB1 hB2
  have hg2 : (w2.alloc (.cells (arr 0) 60)).heap.size = w2.heap.size + 1 := Array.size_push _
  rw [hg2] at HR2
  have HB0 := Lib.hid ((hB.alloc hz (.cells (arr 0) 60)).alloc (by rw [hg2]; omega) (.cells (arr 0) 60))
  have HS := Lib.hid (HR2.out.rowOther (b := w2.heap.size) (by omega) (arr k))
  have HX := Lib.hid (HR1.out.row k)
  have HY := Lib.hid (HX.out.rowOther (b := w2.heap.size + 1) (by omega) (arr l))
  have HZ := Lib.hid (HS.out.row l)
  have HB := Lib.hid (below_setRow (below_setRow HB0.out hz (arr k)) (show w.heap.size ≤ w2.heap.size + 1 by omega) (arr l))
  clear hB HB0
  go_wp2_with (first | refine wp_store4 rfl _ _ rfl _ rfl k rfl 0 HR1.out ?_ | refine wp_store4 rfl _ _ rfl _ rfl l rfl 0 HS.out ?_)
  rw [zero_arr]
  clear HR1 HR2 HS HX hg2
  generalize (((w2.alloc (.cells (arr 0) 60)).alloc (.cells (arr 0) 60)).setRow w2.heap.size (arr k)).setRow (w2.heap.size + 1) (arr l) = W at HB HY HZ ⊢
  clear hz
  generalize hg1 : w2.heap.size + 1 = g1 at HZ ⊢
  generalize w2.heap.size = g at HY ⊢
  clear hg1
  go_wp2
  go_loopw [7, 12] (fun _ i wr => ∃ j : Nat, j ≤ 4 ∧ i = .int .i64 j ∧ strictTo k l j = true ∧ Hid (Below w.heap.size w wr) ∧ Hid (RowAt wr g k) ∧ Hid (RowAt wr g1 l)) (fun _ i _ => 4 - (intOf i).toNat)
  case atStart => exact ⟨0, Nat.zero_le _, rfl, rfl, HB, HY, HZ⟩
  case round =>
    clear HB HY HZ
    obtain ⟨j, hj, rfl, hs, HB, HY, HZ⟩ := hrel
    by_cases hlt : j < 4
    · have t1 : decide ((j : Int) < 4) = true := decide_eq_true (by omega)
      have hc := HY.out.cell j hlt
      have hd := HZ.out.cell j hlt
      have hm := strictTo_next k l j hs
      have hf := strictTo_fail k l j 4 hlt
      generalize lev k j = a at *
      generalize lev l j = b at *
      by_cases hab : b < a
      · have q : decide (b < a) = true := decide_eq_true hab
        have HF := Lib.hid (hf hab)
        clear hf hm hs
        go_wp2
        go_region
        go_wp2
        go_ret
        exact ⟨by rw [HF.out]; rfl, HB.out.drew⟩
      · have q : decide (b < a) = false := decide_eq_false hab
        have HM := Lib.hid (show strictTo k l (j + 1) = true by rw [hm]; exact decide_eq_true (by omega))
        clear hf hm hs
        go_wp2
        go_region
        go_wp2
        go_roundw
        case rel => exact ⟨j + 1, by omega, by go_num, HM.out, Lib.hid HB.out.drew, Lib.hid HY.out.drew, Lib.hid HZ.out.drew⟩
        case measure => simp [intOf]; omega
    · obtain rfl : j = 4 := by omega
      have t1 : decide ((4 : Int) < 4) = false := rfl
      have HM := Lib.hid hs
      clear hs
      go_wp2
      go_ret
      exact ⟨by rw [HM.out]; rfl, HB.out⟩

end Go.Proofs.YtbmnhmbicefemaaGreatDoor.Policy
