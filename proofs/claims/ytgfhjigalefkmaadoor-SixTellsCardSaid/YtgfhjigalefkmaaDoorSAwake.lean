/-
  The chapter's examples answer as the chapter says (awake).
-/
import Derived.Test.YtgfhjigalefkmaaDoorSParse
import Derived.Shelf.Abstract
namespace Go.Proofs.YtgfhjigalefkmaaDoor.Six
open Go.RowKit
set_option linter.unusedSimpArgs false
set_option linter.unusedVariables false

theorem wpList_taken {P : Program} {ops : Array Oper} {Q : Exit → Act → World → Prop} {a : Act} {w : World} {rest : List Oper} {o : Oper} (hw : Region.wanted o (yielded ops a.tmps) = true)
    (h : ∀ K : Act → World → Prop, (∀ a w, wpList P ops Q rest a w → K a w) → o.wp P a w K Q) : wpList P ops Q (o :: rest) a w :=
  wpList_step fun K hK => by rw [if_pos hw]; exact h K hK
/-- A whole array, under a guard that is met. -/
theorem wp_load22g {ops : Array Oper} {rest : List Oper} {o : Oper} {a : Act} {w : World} {Q : Exit → Act → World → Prop} (hgd : Region.wanted o (yielded ops a.tmps) = true) (x : Operand) (ho : o.op = .load 22 x) (g : Nat) (hx : a.eval x = .pointer (some ⟨g, 0, none⟩))
    (l : List Int) (h8 : l.length = 8) (hr : RowAt w g l) (h : wpList Tryd.prog ops Q rest (a.put o.dst (.agg (arr l))) w) : wpList Tryd.prog ops Q (o :: rest) a w :=
  wpList_taken hgd fun _ hK => wp_load_row 22 x ho g hx 22 (arr l) (0, 0) _ hr Tryd.underlying22 rfl (by rw [arr_size, h8]; exact size22) (hK _ _ h)

def ex0 : List Int := [1, 0, 0, 2, 0, 0, 0, 3]
theorem hexN_digit (n : Nat) (h : n < 10) : hexN n = [UInt8.ofNat (48 + n)] := by rw [hexN_lt (by omega)]; unfold hexC; rw [if_pos h]
theorem texts_ex : texts ex0 = [[49], [48], [48], [50], [48], [48], [48], [51]] := by
  show [hexN 1, hexN 0, hexN 0, hexN 2, hexN 0, hexN 0, hexN 0, hexN 3] = _
  rw [hexN_digit 1 (by omega), hexN_digit 0 (by omega), hexN_digit 2 (by omega), hexN_digit 3 (by omega)]
  rfl
theorem texts_zero : texts zero8 = [[48], [48], [48], [48], [48], [48], [48], [48]] := by
  show [hexN 0, hexN 0, hexN 0, hexN 0, hexN 0, hexN 0, hexN 0, hexN 0] = _
  rw [hexN_digit 0 (by omega)]
  rfl
theorem run_ex : runP ex0 = (4, 3) := by decide +kernel
theorem run_zero : runP zero8 = (0, 8) := by decide +kernel
theorem may_ex : mayP ex0 = true := by decide +kernel
theorem may_zero : mayP zero8 = true := by decide +kernel
theorem show_ex : showS ex0 = [49, 58, 48, 58, 48, 58, 50, 58, 58, 51] := by
  unfold showS showIn
  rw [may_ex, run_ex, texts_ex]
  rfl
theorem show_zero : showS zero8 = [58, 58] := by
  unfold showS showIn
  rw [may_zero, run_zero, texts_zero]
  rfl
theorem ex_parse1 (m : Int) (w : World) (hm : At m w) : Calls Tryd.prog 10 #[.string ⟨#[49, 58, 48, 58, 48, 58, 50, 58, 58, 51]⟩] w fun e W' => e = .returned (.tuple #[.agg (arr ex0), .bool true]) ∧ Below w.heap.size w W' := by
  have h := par_show ex0 rfl may_ex
  rw [show_ex] at h
  exact parse_any ⟨#[49, 58, 48, 58, 48, 58, 50, 58, 58, 51]⟩ (by decide) _ _ h.2 h.1 m w hm
theorem ex_parse2 (m : Int) (w : World) (hm : At m w) : Calls Tryd.prog 10 #[.string ⟨#[58, 58]⟩] w fun e W' => e = .returned (.tuple #[.agg (arr zero8), .bool true]) ∧ Below w.heap.size w W' := by
  have h := par_show zero8 rfl may_zero
  rw [show_zero] at h
  exact parse_any ⟨#[58, 58]⟩ (by decide) _ _ h.2 h.1 m w hm
theorem ex_run (w : World) : Calls Tryd.prog 12 #[.agg (arr ex0)] w fun e w' => e = .returned (.tuple #[.int .i64 4, .int .i64 3]) ∧ Below w.heap.size w w' := by
  have := run_any ex0 rfl w
  rw [run_ex] at this
  exact this
theorem ex_show1 (m : Int) (w : World) (hm : At m w) : Calls Tryd.prog 16 #[.agg (arr ex0)] w fun e W' => e = .returned (.string ⟨#[49, 58, 48, 58, 48, 58, 50, 58, 58, 51]⟩) ∧ Below w.heap.size w W' := show_any ex0 rfl _ (by rw [show_ex]) m w hm
theorem ex_show2 (m : Int) (w : World) (hm : At m w) : Calls Tryd.prog 16 #[.agg (arr zero8)] w fun e W' => e = .returned (.string ⟨#[58, 58]⟩) ∧ Below w.heap.size w W' := show_any zero8 rfl _ (by rw [show_zero]) m w hm

/-- What awake's three arrays hold. -/
structure Three (m : Int) (g1 g2 g3 : Nat) (W : World) : Prop where
  r1 : RowAt W g1 ex0
  r2 : RowAt W g2 ex0
  r3 : RowAt W g3 zero8
  at_ : At m W
theorem Three.later {m : Int} {g1 g2 g3 : Nat} {W U : World} (h : Three m g1 g2 g3 W) (hB : Below W.heap.size W U) : Three m g1 g2 g3 U := ⟨h.r1.later hB, h.r2.later hB, h.r3.later hB, h.at_.later hB⟩

set_option maxRecDepth 100000 in
set_option maxHeartbeats 4000000 in
theorem awake_calls (m : Int) (w : World) (hm0 : At m w) : Calls Tryd.prog 9 #[] w fun e W' => e = .returned (.bool true) ∧ Below w.heap.size w W' := by
  have HM := Lib.hid hm0
  have HZ := Lib.hid (fun u : World => RowAt.new u zero8)
  clear hm0
  go_enter Tryd.func9, Tryd.ntmps9
  go_wp2_with (refine wp_store22 rfl _ _ rfl _ rfl ex0 rfl rfl zero8 rfl (HZ.out _) ?_)
  have hB0 : Below w.heap.size w ((w.alloc (.cells (arr zero8) 22)).setRow w.heap.size (arr ex0)) := below_setRow ((Below.refl _ w).alloc (Nat.le_refl _) _) (Nat.le_refl _) _
  have hR0 : RowAt ((w.alloc (.cells (arr zero8) 22)).setRow w.heap.size (arr ex0)) w.heap.size ex0 := (RowAt.new w zero8).row ex0
  try rw [zero_arr]
  generalize (w.alloc (.cells (arr zero8) 22)).setRow w.heap.size (arr ex0) = W1 at hB0 hR0 ⊢
  have HB0 := Lib.hid hB0
  have HR0 := Lib.hid hR0
  clear hB0 hR0
  refine (ex_parse1 m _ (HM.out.later HB0.out)).mono ?_
  rintro e u1 ⟨rfl, hB1⟩
  have HB1 := Lib.hid hB1
  clear hB1
  go_wp2_with (refine wp_store22 rfl _ _ rfl _ rfl ex0 rfl rfl zero8 rfl (HZ.out _) ?_)
  have hB2 : Below u1.heap.size u1 ((u1.alloc (.cells (arr zero8) 22)).setRow u1.heap.size (arr ex0)) := below_setRow ((Below.refl _ u1).alloc (Nat.le_refl _) _) (Nat.le_refl _) _
  have hR2 : RowAt ((u1.alloc (.cells (arr zero8) 22)).setRow u1.heap.size (arr ex0)) u1.heap.size ex0 := (RowAt.new u1 zero8).row ex0
  try rw [zero_arr]
  generalize (u1.alloc (.cells (arr zero8) 22)).setRow u1.heap.size (arr ex0) = W2 at hB2 hR2 ⊢
  have HB2 := Lib.hid hB2
  have HR2 := Lib.hid hR2
  clear hB2 hR2
  refine (ex_parse2 m _ (((HM.out.later HB0.out).later HB1.out).later HB2.out)).mono ?_
  rintro e u2 ⟨rfl, hB3⟩
  have HB3 := Lib.hid hB3
  clear hB3
  have hB4 : Below u2.heap.size u2 ((u2.alloc (.cells (arr zero8) 22)).setRow u2.heap.size (arr zero8)) := below_setRow ((Below.refl _ u2).alloc (Nat.le_refl _) _) (Nat.le_refl _) _
  have hR4 : RowAt ((u2.alloc (.cells (arr zero8) 22)).setRow u2.heap.size (arr zero8)) u2.heap.size zero8 := (RowAt.new u2 zero8).row zero8
  have HS0 := Lib.hid (show Three m w.heap.size u1.heap.size u2.heap.size ((u2.alloc (.cells (arr zero8) 22)).setRow u2.heap.size (arr zero8)) from ⟨(((HR0.out.later HB1.out).later HB2.out).later HB3.out).later hB4, (HR2.out.later HB3.out).later hB4, hR4, ((((HM.out.later HB0.out).later HB1.out).later HB2.out).later HB3.out).later hB4⟩)
  have HBB := Lib.hid (Ascii.below2 (Ascii.below4 HB0.out HB1.out HB2.out HB3.out) hB4)
  clear hB4 hR4 HB0 HB1 HB2 HB3 HR0 HR2 HM
  have heq1 := fun u => eq22 ex0 ex0 rfl rfl true (by decide +kernel) u
  have heq2 := fun u => eq22 zero8 zero8 rfl rfl true (by decide +kernel) u
  have heq2' : ∀ u, (Op.equalIn 10000 22 (.agg (arr zero8)) (.agg #[.int .i64 0, .int .i64 0, .int .i64 0, .int .i64 0, .int .i64 0, .int .i64 0, .int .i64 0, .int .i64 0])).run Tryd.prog u = .ok true u := heq2
  go_wp2_with (first
    | refine wp_store22 rfl _ _ rfl _ rfl zero8 rfl rfl zero8 rfl (HZ.out _) ?_
    | refine wp_load22 rfl _ rfl w.heap.size rfl ex0 rfl HS0.out.r1 ?_)
  refine (ex_run _).mono ?_
  rintro e x1 ⟨rfl, hC1⟩
  have HS1 := Lib.hid (HS0.out.later hC1)
  have HB1 := Lib.hid (Ascii.below2 HBB.out hC1)
  clear hC1 HS0 HBB HZ
  go_wp2_with (refine wp_load22 rfl _ rfl w.heap.size rfl ex0 rfl HS1.out.r1 ?_)
  refine (ex_show1 m _ HS1.out.at_).mono ?_
  rintro e x2 ⟨rfl, hC2⟩
  have HS2 := Lib.hid (HS1.out.later hC2)
  have HB2 := Lib.hid (Ascii.below2 HB1.out hC2)
  clear hC2 HS1 HB1
  go_wp2_with (first
    | refine wp_load22g rfl _ rfl w.heap.size rfl ex0 rfl HS2.out.r1 ?_
    | refine wp_load22g rfl _ rfl u1.heap.size rfl ex0 rfl HS2.out.r2 ?_
    | refine wp_load22g rfl _ rfl u2.heap.size rfl zero8 rfl HS2.out.r3 ?_)
  refine (may_any ex0 rfl true may_ex _).mono ?_
  rintro e x3 ⟨rfl, hC3⟩
  have HS3 := Lib.hid (HS2.out.later hC3)
  have HB3 := Lib.hid (Ascii.below2 HB2.out hC3)
  clear hC3 HS2 HB2
  go_wp2_with (refine wp_load22g rfl _ rfl u2.heap.size rfl zero8 rfl HS3.out.r3 ?_)
  refine (ex_show2 m _ HS3.out.at_).mono ?_
  rintro e x4 ⟨rfl, hC4⟩
  have HB4 := Lib.hid (Ascii.below2 HB3.out hC4)
  clear hC4 HS3 HB3
  go_wp2
  go_ret
  exact ⟨rfl, HB4.out⟩
end Go.Proofs.YtgfhjigalefkmaaDoor.Six
