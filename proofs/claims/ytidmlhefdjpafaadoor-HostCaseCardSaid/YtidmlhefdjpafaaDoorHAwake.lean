/-
  The chapter's examples answer as the chapter says (awake).
-/
import Derived.Test.YtidmlhefdjpafaaDoorHLaw
namespace Go.Proofs.YtidmlhefdjpafaaDoor.Host
open Go.RowKit
open Six (arr RowAt zero8)
set_option linter.unusedSimpArgs false
set_option linter.unusedVariables false
structure TwoH (m : Int) (g1 g2 : Nat) (a b : H) (W : World) : Prop where
  r1 : HostAt W g1 a
  r2 : HostAt W g2 b
  at_ : Six.At m W
theorem TwoH.later {m : Int} {g1 g2 : Nat} {a b : H} {W U : World} (h : TwoH m g1 g2 a b W) (hB : Below W.heap.size W U) : TwoH m g1 g2 a b U := ⟨h.r1.later hB, h.r2.later hB, h.at_.later hB⟩
/-- A new host, written. -/
theorem below_new (u : World) (h : H) : Below u.heap.size u ((u.alloc (.cells none0.cells 24)).setRow u.heap.size h.cells) := Six.below_setRow ((Below.refl _ u).alloc (Nat.le_refl _) _) (Nat.le_refl _) _
theorem host_new (u : World) (h : H) : HostAt ((u.alloc (.cells none0.cells 24)).setRow u.heap.size h.cells) u.heap.size h := (HostAt.new u none0).row h
theorem zero_host : (#[.int .i64 0, .string ⟨#[]⟩, .int .i64 0, .int .i64 0, .int .i64 0, .int .i64 0, .int .i64 0, .int .i64 0, .int .i64 0, .int .i64 0, .int .i64 0] : Array Value) = none0.cells := rfl
set_option maxRecDepth 100000 in
set_option maxHeartbeats 4000000 in
theorem awake_calls (m : Int) (w : World) (hm0 : Six.At m w) : Calls Tryd.prog 8 #[] w fun e W' => e = .returned (.bool true) ∧ Below w.heap.size w W' := by
  have HM := Lib.hid hm0
  have HZ := Lib.hid (fun u : World => HostAt.new u none0)
  have cA := Lib.hid (fun u (hu : Six.At m u) => parse_any ⟨#[69, 88, 65, 77, 80, 76, 69, 46, 111, 114, 103]⟩ (by decide) hA true exA_ok.2 exA_ok.1 m u hu)
  have cB := Lib.hid (fun u (hu : Six.At m u) => parse_any ⟨#[91, 48, 58, 48, 58, 58, 49, 93]⟩ (by decide) hBx true exB_ok.2 exB_ok.1 m u hu)
  have cC := Lib.hid (fun u (hu : Six.At m u) => parse_any ⟨#[49, 46, 50, 46, 51]⟩ (by decide) none0 false (par_no _ exC_no) exC_no m u hu)
  have cS := Lib.hid (fun u (hu : Six.At m u) => show_in hBx rfl (by decide) ⟨#[91, 58, 58, 49, 93]⟩ (by rw [hB_show]) m u hu)
  have cL := Lib.hid (fun u (hu : Six.At m u) => local_in hBx rfl (by decide) true hB_local m u hu)
  have cMy := Lib.hid (fun u (hu : Six.At m u) => may_any hA rfl (by decide) true hA_may m u hu)
  have cK := Lib.hid (fun u (hu : Six.At m u) => local_in hA rfl (by decide) false hA_local m u hu)
  have heq : ∀ u, (Op.equalIn 10000 24 (.agg hA.cells) (.agg #[.int .i64 1, .string ⟨#[101, 120, 97, 109, 112, 108, 101, 46, 111, 114, 103]⟩, .int .i64 0, .int .i64 0, .int .i64 0, .int .i64 0, .int .i64 0, .int .i64 0, .int .i64 0, .int .i64 0, .int .i64 0])).run Tryd.prog u = .ok true u := fun u => eq24 hA hA rfl rfl true (same_refl hA) u
  clear hm0
  go_enter Tryd.func8, Tryd.ntmps8
  go_wp2_with fail
  refine (cA.out _ HM.out).mono ?_
  rintro e u1 ⟨rfl, hB1⟩
  have HB1 := Lib.hid (Ascii.below2 hB1 (below_new u1 hA))
  have HM1 := Lib.hid (HM.out.later HB1.out)
  have HR1 := Lib.hid (host_new u1 hA)
  clear hB1 HM cA
  go_wp2_with (refine wp_store24 (o := ⟨none, .store 24 (.tmp 1) (.tmp 9), _, _, _, _⟩) rfl (.tmp 1) (.tmp 9) rfl u1.heap.size rfl hA rfl rfl none0 rfl (HZ.out _) ?_)
  try rw [zero_host]
  generalize (u1.alloc (.cells none0.cells 24)).setRow u1.heap.size hA.cells = W1 at HB1 HM1 HR1 ⊢
  refine (cB.out _ HM1.out).mono ?_
  rintro e u2 ⟨rfl, hB2⟩
  have HB2 := Lib.hid (Ascii.below2 HB1.out (Ascii.below2 hB2 (below_new u2 hBx)))
  have HT2 := Lib.hid (show TwoH m u1.heap.size u2.heap.size hA hBx ((u2.alloc (.cells none0.cells 24)).setRow u2.heap.size hBx.cells) from ⟨(HR1.out.later hB2).later (below_new u2 hBx), host_new u2 hBx, (HM1.out.later hB2).later (below_new u2 hBx)⟩)
  clear hB2 HB1 HM1 HR1 cB
  go_wp2_with (refine wp_store24 (o := ⟨none, .store 24 (.tmp 3) (.tmp 13), _, _, _, _⟩) rfl (.tmp 3) (.tmp 13) rfl u2.heap.size rfl hBx rfl rfl none0 rfl (HZ.out _) ?_)
  try rw [zero_host]
  generalize (u2.alloc (.cells none0.cells 24)).setRow u2.heap.size hBx.cells = W2 at HB2 HT2 ⊢
  refine (cC.out _ HT2.out.at_).mono ?_
  rintro e u3 ⟨rfl, hB3⟩
  have HB3 := Lib.hid (Ascii.below2 HB2.out (Ascii.below2 hB3 (below_new u3 none0)))
  have HT3 := Lib.hid ((HT2.out.later hB3).later (below_new u3 none0))
  have HT3' := Lib.hid (show TwoH m u1.heap.size u2.heap.size hA hBx ((u3.alloc (.cells #[.int .i64 0, .string ⟨#[]⟩, .int .i64 0, .int .i64 0, .int .i64 0, .int .i64 0, .int .i64 0, .int .i64 0, .int .i64 0, .int .i64 0, .int .i64 0] 24)).setRow u3.heap.size none0.cells) from HT3.out)
  clear hB3 HB2 HT2 cC
  go_wp2_with (first
    | refine wp_store24 (o := ⟨none, .store 24 (.tmp 5) (.tmp 17), _, _, _, _⟩) rfl (.tmp 5) (.tmp 17) rfl u3.heap.size rfl none0 rfl rfl none0 rfl (HZ.out _) ?_
    | ((with_reducible refine wp_load24 (o := ⟨some 21, .load 24 (.tmp 1), _, _, _, _⟩) ?_ (.tmp 1) ?_ u1.heap.size ?_ hA rfl HT3'.out.r1 ?_); (· rfl); (· rfl); (· rfl))
    | ((with_reducible refine wp_load24 (o := ⟨some 29, .load 24 (.tmp 3), _, _, _, _⟩) ?_ (.tmp 3) ?_ u2.heap.size ?_ hBx rfl HT3'.out.r2 ?_); (· rfl); (· rfl); (· rfl)))
  refine (cS.out _ HT3'.out.at_).mono ?_
  rintro e x1 ⟨rfl, hC1⟩
  have HT4 := Lib.hid (HT3.out.later hC1)
  have HB4 := Lib.hid (Ascii.below2 HB3.out hC1)
  clear hC1 HT3 HT3' HB3 cS
  go_wp2_with ((with_reducible refine wp_load24 (o := ⟨some 34, .load 24 (.tmp 3), _, _, _, _⟩) ?_ (.tmp 3) ?_ u2.heap.size ?_ hBx rfl HT4.out.r2 ?_); (· rfl); (· rfl); (· rfl))
  refine (cL.out _ HT4.out.at_).mono ?_
  rintro e x2 ⟨rfl, hC2⟩
  have HT5 := Lib.hid (HT4.out.later hC2)
  have HB5 := Lib.hid (Ascii.below2 HB4.out hC2)
  clear hC2 HT4 HB4 cL
  go_wp2_with ((with_reducible refine wp_load24 (o := ⟨some 42, .load 24 (.tmp 1), _, _, _, _⟩) ?_ (.tmp 1) ?_ u1.heap.size ?_ hA rfl HT5.out.r1 ?_); (· rfl); (· rfl); (· rfl))
  refine (cMy.out _ HT5.out.at_).mono ?_
  rintro e x3 ⟨rfl, hC3⟩
  have HT6 := Lib.hid (HT5.out.later hC3)
  have HB6 := Lib.hid (Ascii.below2 HB5.out hC3)
  clear hC3 HT5 HB5 cMy
  go_wp2_with ((with_reducible refine wp_load24 (o := ⟨some 46, .load 24 (.tmp 1), _, _, _, _⟩) ?_ (.tmp 1) ?_ u1.heap.size ?_ hA rfl HT6.out.r1 ?_); (· rfl); (· rfl); (· rfl))
  refine (cK.out _ HT6.out.at_).mono ?_
  rintro e x4 ⟨rfl, hC4⟩
  have HB7 := Lib.hid (Ascii.below2 HB6.out hC4)
  clear hC4 HT6 HB6 cK
  go_wp2
  go_ret
  exact ⟨rfl, HB7.out⟩
end Go.Proofs.YtidmlhefdjpafaaDoor.Host
