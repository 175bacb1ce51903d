/-
  WHAT IS PROVED: the card of OriginNull: of any two origins whose texts are of at most 300 bytes: what is opaque, or may not be, is shown as null and is the same as nothing; each other one is shown with its scheme and its host, and is the same just if it is equal.
  CONDITIONS: none but the card's own: the listed tables read as their texts lay them; the origins are any.
-/
import Derived.Test.YtkhgdcpkhbpemaaGreatDoorCards
import Derived.Test.YtkhgdcpkhbpemaaGreatDoorTie
import Derived.WalkKit
import Derived.ProofKit
import Derived.OpenShut
import Derived.ShutString
import Derived.ChangeOld
import Derived.Below
import Derived.Deep.RegionHeld
import Derived.Laws.AppendOwnNone
import Derived.Test.YtkhgdcpkhbpemaaGreatDoorOAwake
import Derived.Test.YtkhgdcpkhbpemaaGreatDoorLaid
import Derived.Test.YtkhgdcpkhbpemaaGreatDoorHOpen
namespace Go.Proofs.YtkhgdcpkhbpemaaGreatDoor.originNull
open Go.ChangeShapes Go.WideShapes Go.ChangeAt Go.RowKit
open Go.ChangeMaps (open_string shut_string)
open Go.Shelf
open Go.Proofs.YtkhgdcpkhbpemaaGreatDoor.Url
open Go.Proofs.YtkhgdcpkhbpemaaGreatDoor.Host (H)
open Go.Proofs.YtkhgdcpkhbpemaaGreatDoor.Path (Strs)
set_option linter.unusedSimpArgs false
set_option linter.unusedVariables false

theorem own : ownKnob Tryz.prog.godebug = none := by kernel_rfl
theorem laidOut : laidOutB Tryz.prog = true := by kernel_rfl

open Go.Proofs.YtkhgdcpkhbpemaaGreatDoor.Show
open Go.Proofs.YtkhgdcpkhbpemaaGreatDoor.Origin
theorem oshow_len (o : O) (h8 : o.h.p.length = 8) (hs : o.h.s.size ≤ 1000) (hl : o.sch.length ≤ 300) : (showO o).length ≤ 1000000 := by
  unfold showO
  split
  · decide
  · rename_i h
    have hm : mayO o = true ∧ o.opaq = false := by
      cases h1 : o.opaq <;> cases h2 : mayO o <;> rw [h1, h2] at h <;> first | exact ⟨rfl, rfl⟩ | exact absurd rfl h
    have e := show_adr hm.1 hm.2
    have hd := door_size (adr o) (adr_fit o h8 hs (by omega))
    have e2 := show_begins hm.1 hm.2
    rw [e2] at e
    unfold textO
    rw [← e]
    simp only [List.length_append, List.length_cons]
    omega
set_option maxRecDepth 100000
set_option maxHeartbeats 16000000 in
theorem walk (a0 : O) (l0 : a0.h.p.length = 8) (a1 : O) (l1 : a1.h.p.length = 8) (w0 : (Lit.int .i64 a0.port).wf = true) (w1 : (Lit.int .i64 a1.port).wf = true) (m : Int) (w : World) (hm : Six.At m w)  :
    Calls Tryz.prog 8 #[.agg (cO a0), .agg (cO a1)] w fun e w' => e = .returned (.bool true) ∧ Below w.heap.size w w' := by
  have e1 : (w.alloc (.cells (cO a0) 29)).heap.size = w.heap.size + 1 := Array.size_push _
  have b1 : Below w.heap.size w (w.alloc (.cells (cO a0) 29)) := (Below.refl w.heap.size w).alloc (Nat.le_refl _) _
  have b2 : Below w.heap.size w ((w.alloc (.cells (cO a0) 29)).alloc (.cells (cO a1) 29)) := b1.alloc (by omega) _
  have HX := Lib.hid b2
  have HO0 := Lib.hid ((OAt.new w a0).past (.cells (cO a1) 29))
  have HP0 := Lib.hid (show OAt ((w.alloc (.cells (cO a0) 29)).alloc (.cells (cO a1) 29)) (w.heap.size + 1) a1 from by rw [← e1]; exact OAt.new (w.alloc (.cells (cO a0) 29)) a1)
  have HM0 := Lib.hid (hm.later HX.out)
  clear hm e1 b1 b2 
  go_enter Tryz.func8, Tryz.ntmps8
  go_wp2_with fail
  generalize ((w.alloc (.cells (cO a0) 29)).alloc (.cells (cO a1) 29)) = X0 at HX HM0 HO0 HP0  ⊢
  refine (Origin.awake_calls m X0 HM0.out).mono ?_
  rintro e X1 ⟨rfl, hB⟩
  have HB1 := Lib.hid (hB)
  have HO1 := Lib.hid (HO0.out.later hB)
  have HP1 := Lib.hid (HP0.out.later hB)
  have HM1 := Lib.hid (HM0.out.later hB)
  clear HO0 HP0 HM0
  clear hB
  obtain ⟨N0, hN0⟩ : ∃ n, tb a0.sch = n := ⟨_, rfl⟩
  obtain ⟨N1, hN1⟩ : ∃ n, tb a1.sch = n := ⟨_, rfl⟩
  obtain ⟨D1, hD1⟩ : ∃ b, decide (300 < N0.size) = b := ⟨_, rfl⟩
  obtain ⟨D2, hD2⟩ : ∃ b, decide (300 < a0.h.s.size) = b := ⟨_, rfl⟩
  obtain ⟨D3, hD3⟩ : ∃ b, decide (300 < N1.size) = b := ⟨_, rfl⟩
  obtain ⟨D4, hD4⟩ : ∃ b, decide (300 < a1.h.s.size) = b := ⟨_, rfl⟩
  have hE1 : decide ((300 : Int) < (N0.size : Int)) = D1 := by rw [← hD1]; exact decide_eq_decide.2 (by omega)
  have hE2 : decide ((300 : Int) < (a0.h.s.size : Int)) = D2 := by rw [← hD2]; exact decide_eq_decide.2 (by omega)
  have hE3 : decide ((300 : Int) < (N1.size : Int)) = D3 := by rw [← hD3]; exact decide_eq_decide.2 (by omega)
  have hE4 : decide ((300 : Int) < (a1.h.s.size : Int)) = D4 := by rw [← hD4]; exact decide_eq_decide.2 (by omega)
  have o1 := (HO1.out.cells l0).2.1
  rw [hN0] at o1
  have o3 := HO1.out.name l0
  have p1 := (HP1.out.cells l1).2.1
  rw [hN1] at p1
  have p3 := HP1.out.name l1
  have HN0 := Lib.hid hN0
  have HN1 := Lib.hid hN1
  clear hN0 hN1
  cases D1
  rotate_left
  · go_wp2
    go_ret
    exact ⟨rfl, HX.out.trans (HB1.out.mono HX.out.size)⟩
  cases D2
  rotate_left
  · go_wp2
    go_ret
    exact ⟨rfl, HX.out.trans (HB1.out.mono HX.out.size)⟩
  cases D3
  rotate_left
  · go_wp2
    go_ret
    exact ⟨rfl, HX.out.trans (HB1.out.mono HX.out.size)⟩
  cases D4
  rotate_left
  · go_wp2
    go_ret
    exact ⟨rfl, HX.out.trans (HB1.out.mono HX.out.size)⟩
  have hs0 : a0.h.s.size ≤ 1000 := by have := of_decide_eq_false hD2; omega
  have hs1 : a1.h.s.size ≤ 1000 := by have := of_decide_eq_false hD4; omega
  have hl0 : a0.sch.length ≤ 1000000 := by have := of_decide_eq_false hD1; rw [← size_tb HN0.out]; omega
  have hl1 : a1.sch.length ≤ 1000000 := by have := of_decide_eq_false hD3; rw [← size_tb HN1.out]; omega
  have HSZ := Lib.hid (show N0.size ≤ 300 by have := of_decide_eq_false hD1; omega)
  obtain ⟨S, hS⟩ : ∃ n, tb (showO a0) = n := ⟨_, rfl⟩
  obtain ⟨X, hX⟩ : ∃ n, (⟨(Host.showH a0.h).toArray⟩ : ByteArray) = n := ⟨_, rfl⟩
  obtain ⟨M, hM⟩ : ∃ b, mayO a0 = b := ⟨_, rfl⟩
  obtain ⟨Q, hQ⟩ : ∃ b, a0.opaq = b := ⟨_, rfl⟩
  obtain ⟨r0, hr0⟩ : ∃ b, sameO a0 a0 = b := ⟨_, rfl⟩
  obtain ⟨r1, hr1⟩ : ∃ b, sameO a0 a1 = b := ⟨_, rfl⟩
  obtain ⟨r2, hr2⟩ : ∃ b, sameO a1 a0 = b := ⟨_, rfl⟩
  have CS := Lib.hid (fun y hm => oshow_any a0 l0 hs0 hl0 S hS m y hm)
  have CM := Lib.hid (fun y hm => omay_any a0 l0 hs0 hl0 M hM m y hm)
  have CH := Lib.hid (fun y hm => Host.show_in a0.h l0 hs0 X hX m y hm)
  have C0 := Lib.hid (fun y hm => osame_any a0 a0 l0 l0 hs0 hl0 r0 hr0 m y hm)
  have C1 := Lib.hid (fun y hm => osame_any a0 a1 l0 l1 hs0 hl0 r1 hr1 m y hm)
  have C2 := Lib.hid (fun y hm => osame_any a1 a0 l1 l0 hs1 hl1 r2 hr2 m y hm)
  have KN := Lib.hid (show (Q || !M) = true → (S.toList == [110, 117, 108, 108]) = true ∧ r0 = false ∧ r1 = false ∧ r2 = false from fun h => by
    have h' : (a0.opaq || !mayO a0) = true := by rw [hQ, hM]; exact h
    exact ⟨null_list S h' hS, hr0.symm.trans (same_none (b := a0) h').1, hr1.symm.trans (same_none (b := a1) h').1, hr2.symm.trans (same_none (b := a1) h').2⟩)
  have KY := Lib.hid (show Q = false → M = true → r0 = true ∧ r1 = eqO a0 a1 ∧ (N0.size + 3 + X.size ≤ S.size ∧ S.extract 0 N0.size = N0 ∧ S.extract N0.size (N0.size + 3) = ⟨#[58, 47, 47]⟩ ∧ S.extract (N0.size + 3) (N0.size + 3 + X.size) = X) from fun h k =>
    ⟨hr0.symm.trans (same_self (hM.trans k) (hQ.trans h)), hr1.symm.trans (eq_same a1 (hM.trans k) (hQ.trans h)), show_parts (hM.trans k) (hQ.trans h) S N0 X hS HN0.out hX⟩)
  have HQe := Lib.hid hQ
  have HZ := Lib.hid (show S.size ≤ 1000000 from by
    rw [size_tb hS]
    exact oshow_len a0 l0 hs0 (by rw [← size_tb HN0.out]; exact HSZ.out))
  clear hs0 hs1 hl0 hl1 hS hX hM hQ hr0 hr1 hr2
  have o0 := HO1.out
  go_wp2_with ((with_reducible refine wp_load29 (o := ⟨some 40, .load 29 (.tmp 2), _, _, _, _⟩) ?_ (.tmp 2) ?_ w.heap.size ?_ a0 l0 o0 ?_); (· rfl); (· rfl); (· rfl); simp only [Act.put, List.setIfInBounds_toArray, List.set_cons_zero, List.set_cons_succ])
  refine (CS.out _ HM1.out).mono ?_
  rintro e X2 ⟨rfl, hB⟩
  have HB2 := Lib.hid (below_trans HB1.out hB)
  have HO2 := Lib.hid (HO1.out.later hB)
  have HP2 := Lib.hid (HP1.out.later hB)
  have HM2 := Lib.hid (HM1.out.later hB)
  clear HB1 HO1 HP1 HM1
  clear hB o0 o1 o3 p1 p3 hD1 hD2 hD3 hD4 hE1 hE2 hE3 hE4 CS
  have o0 := (HO2.out.cells l0).1
  rw [HQe.out] at o0
  cases Q
  rotate_left
  · obtain ⟨e0, rfl, rfl, rfl⟩ := KN.out (by first | rfl | trivial)
    have HE0 := Lib.hid e0
    clear KN KY
    have h0 := HO2.out
    have h1 := HP2.out
    go_wp2_with (first | ((with_reducible refine wp_load29 (o := ⟨some 53, .load 29 (.tmp 2), _, _, _, _⟩) ?_ (.tmp 2) ?_ w.heap.size ?_ a0 l0 h0 ?_); (· rfl); (· rfl); (· rfl); simp only [Act.put, List.setIfInBounds_toArray, List.set_cons_zero, List.set_cons_succ]) | ((with_reducible refine wp_load29 (o := ⟨some 54, .load 29 (.tmp 3), _, _, _, _⟩) ?_ (.tmp 3) ?_ (w.heap.size + 1) ?_ a1 l1 h1 ?_); (· rfl); (· rfl); (· rfl); simp only [Act.put, List.setIfInBounds_toArray, List.set_cons_zero, List.set_cons_succ]))
    refine (C1.out _ HM2.out).mono ?_
    rintro e Y1 ⟨rfl, hB⟩
    have HB3 := Lib.hid (below_trans HB2.out hB)
    have HO3 := Lib.hid (HO2.out.later hB)
    have HP3 := Lib.hid (HP2.out.later hB)
    have HM3 := Lib.hid (HM2.out.later hB)
    clear HB2 HO2 HP2 HM2
    clear hB h0 h1 e0
    have h0 := HP3.out
    have h1 := HO3.out
    go_wp2_with (first | ((with_reducible refine wp_load29 (o := ⟨some 59, .load 29 (.tmp 3), _, _, _, _⟩) ?_ (.tmp 3) ?_ (w.heap.size + 1) ?_ a1 l1 h0 ?_); (· rfl); (· rfl); (· rfl); simp only [Act.put, List.setIfInBounds_toArray, List.set_cons_zero, List.set_cons_succ]) | ((with_reducible refine wp_load29 (o := ⟨some 60, .load 29 (.tmp 2), _, _, _, _⟩) ?_ (.tmp 2) ?_ w.heap.size ?_ a0 l0 h1 ?_); (· rfl); (· rfl); (· rfl); simp only [Act.put, List.setIfInBounds_toArray, List.set_cons_zero, List.set_cons_succ]))
    refine (C2.out _ HM3.out).mono ?_
    rintro e Y2 ⟨rfl, hB⟩
    have HB4 := Lib.hid (below_trans HB3.out hB)
    have HO4 := Lib.hid (HO3.out.later hB)
    have HP4 := Lib.hid (HP3.out.later hB)
    have HM4 := Lib.hid (HM3.out.later hB)
    clear HB3 HO3 HP3 HM3
    clear hB h0 h1
    have h0 := HO4.out
    have h1 := HO4.out
    go_wp2_with (first | ((with_reducible refine wp_load29 (o := ⟨some 65, .load 29 (.tmp 2), _, _, _, _⟩) ?_ (.tmp 2) ?_ w.heap.size ?_ a0 l0 h0 ?_); (· rfl); (· rfl); (· rfl); simp only [Act.put, List.setIfInBounds_toArray, List.set_cons_zero, List.set_cons_succ]) | ((with_reducible refine wp_load29 (o := ⟨some 66, .load 29 (.tmp 2), _, _, _, _⟩) ?_ (.tmp 2) ?_ w.heap.size ?_ a0 l0 h1 ?_); (· rfl); (· rfl); (· rfl); simp only [Act.put, List.setIfInBounds_toArray, List.set_cons_zero, List.set_cons_succ]))
    refine (C0.out _ HM4.out).mono ?_
    rintro e Y3 ⟨rfl, hB⟩
    have HB5 := Lib.hid (below_trans HB4.out hB)
    have HO5 := Lib.hid (HO4.out.later hB)
    have HP5 := Lib.hid (HP4.out.later hB)
    have HM5 := Lib.hid (HM4.out.later hB)
    clear HB4 HO4 HP4 HM4
    clear hB h0 h1
    go_wp2
    go_ret
    exact ⟨rfl, HX.out.trans (HB5.out.mono HX.out.size)⟩
  have h0 := HO2.out
  go_wp2_with ((with_reducible refine wp_load29 (o := ⟨some 45, .load 29 (.tmp 2), _, _, _, _⟩) ?_ (.tmp 2) ?_ w.heap.size ?_ a0 l0 h0 ?_); (· rfl); (· rfl); (· rfl); simp only [Act.put, List.setIfInBounds_toArray, List.set_cons_zero, List.set_cons_succ])
  refine (CM.out _ HM2.out).mono ?_
  rintro e X3 ⟨rfl, hB⟩
  have HB3 := Lib.hid (below_trans HB2.out hB)
  have HO3 := Lib.hid (HO2.out.later hB)
  have HP3 := Lib.hid (HP2.out.later hB)
  have HM3 := Lib.hid (HM2.out.later hB)
  clear HB2 HO2 HP2 HM2
  clear hB h0 o0
  cases M
  rotate_left
  · obtain ⟨rfl, e1, g1, g2, g3, g4⟩ := KY.out (by first | rfl | trivial) (by first | rfl | trivial)
    clear KN KY
    have o1 := (HO3.out.cells l0).2.1
    rw [HN0.out] at o1
    have hh := HO3.out
    go_wp2_with ((with_reducible refine wp_load24o (o := ⟨some 74, .load 24 (.tmp 73), _, _, _, _⟩) ?_ (.tmp 73) ?_ w.heap.size ?_ a0 l0 hh ?_); (· rfl); (· rfl); (· rfl); simp only [Act.put, List.setIfInBounds_toArray, List.set_cons_zero, List.set_cons_succ])
    refine (CH.out _ HM3.out).mono ?_
    rintro e X4 ⟨rfl, hB⟩
    have HB4 := Lib.hid (below_trans HB3.out hB)
    have HO4 := Lib.hid (HO3.out.later hB)
    have HP4 := Lib.hid (HP3.out.later hB)
    have HM4 := Lib.hid (HM3.out.later hB)
    clear HB3 HO3 HP3 HM3
    clear hB hh o1 CH CM
    obtain ⟨E, hE⟩ : ∃ b, eqO a0 a1 = b := ⟨_, rfl⟩
    rw [hE] at e1
    have HEQ := Lib.hid (fun y => eq29 a0 a1 l0 l1 E hE y)
    clear hE
    subst e1
    have hz := HZ.out
    have hsz := HSZ.out
    have HG1 := Lib.hid g1
    have HG2 := Lib.hid g2
    have HG3 := Lib.hid g3
    have HG4 := Lib.hid g4
    have HZ' := Lib.hid hz
    have HSZ' := Lib.hid hsz
    clear g1 g2 g3 g4 hz hsz HZ HSZ
    go_wp2_with fail
    have hc : Below X4.heap.size X4 X4.drew := (Below.refl _ _).drew
    refine wp_region_held_drew (S := fun v => OAt v w.heap.size a0 ∧ OAt v (w.heap.size + 1) a1) (by kernel_rfl) ⟨HO4.out.later hc, HP4.out.later hc⟩ (fun hS => ?_)
    refine wpAnyH_take (i := 0) (oi := ⟨some 76, .load 29 (.tmp 2), _, _, _, _⟩) (v := .agg (cO a0)) rfl (by kernel_rfl) (by kernel_rfl) (by kernel_rfl) (fun _ _ _ h => h) (Or.inl ⟨by rfl, ?_⟩) (by assumption) ?_
    · (exact fun v hv => run_load_of 29 (.tmp 2) ⟨w.heap.size, 0, none⟩ rfl (.agg (cO a0)) (hv.1.load l0))
    simp only [Act.put, List.setIfInBounds_toArray, List.set_cons_zero, List.set_cons_succ]
    refine wpAnyH_take (i := 1) (oi := ⟨some 77, .load 29 (.tmp 2), _, _, _, _⟩) (v := .agg (cO a0)) rfl (by kernel_rfl) (by kernel_rfl) (by kernel_rfl) (fun _ _ _ h => h) (Or.inl ⟨by rfl, ?_⟩) (by assumption) ?_
    · (exact fun v hv => run_load_of 29 (.tmp 2) ⟨w.heap.size, 0, none⟩ rfl (.agg (cO a0)) (hv.1.load l0))
    simp only [Act.put, List.setIfInBounds_toArray, List.set_cons_zero, List.set_cons_succ]
    refine wpAnyH_ready (rs := [2]) (by kernel_rfl) (by simp) ?_
    refine AllReadyH.cons (o := ⟨some 78, .call ⟨.value (.func 18), #[.tmp 76, .tmp 77], _⟩, _, _, _, _⟩) rfl (fun K hK => ?_) AllReadyH.nil
    go_simp
    go_at_call 18
    refine (C0.out _ (HM4.out.later hc)).mono ?_
    rintro e x ⟨rfl, hB⟩
    have hc := below_trans hc hB
    refine hK.out _ _ ⟨HO4.out.later hc, HP4.out.later hc⟩ (fun hS => ?_)
    clear hB
    refine wpAnyH_take (i := 3) (oi := ⟨some 79, .move (.tmp 78), _, _, _, _⟩) (v := .bool true) rfl (by kernel_rfl) (by kernel_rfl) (by kernel_rfl) (fun _ _ _ h => h) (Or.inl ⟨by rfl, ?_⟩) (by assumption) ?_
    · (intro v hv; go_simp)
    simp only [Act.put, List.setIfInBounds_toArray, List.set_cons_zero, List.set_cons_succ]
    refine wpAnyH_take (i := 4) (oi := ⟨some 80, .move (.tmp 6), _, _, _, _⟩) (v := .string S) rfl (by kernel_rfl) (by kernel_rfl) (by kernel_rfl) (fun _ _ _ h => h) (Or.inl ⟨by rfl, ?_⟩) (by assumption) ?_
    · (intro v hv; go_simp)
    simp only [Act.put, List.setIfInBounds_toArray, List.set_cons_zero, List.set_cons_succ]
    refine wpAnyH_take (i := 5) (oi := ⟨some 81, .call _, _, _, _, _⟩) (v := .int .i64 (S.size : Int)) rfl (by kernel_rfl) (by kernel_rfl) (by kernel_rfl) (fun _ _ _ h => h) (Or.inl ⟨by rfl, ?_⟩) (by assumption) ?_
    · (intro v hv; go_simp)
    simp only [Act.put, List.setIfInBounds_toArray, List.set_cons_zero, List.set_cons_succ]
    refine wpAnyH_take (i := 6) (oi := ⟨some 82, .move (.tmp 8), _, _, _, _⟩) (v := .int .i64 (N0.size : Int)) rfl (by kernel_rfl) (by kernel_rfl) (by kernel_rfl) (fun _ _ _ h => h) (Or.inl ⟨by rfl, ?_⟩) (by assumption) ?_
    · (intro v hv; go_simp)
    simp only [Act.put, List.setIfInBounds_toArray, List.set_cons_zero, List.set_cons_succ]
    refine wpAnyH_take (i := 7) (oi := ⟨some 83, .binOp .add 3 (.tmp 82) (.const (.int .i64 3)) 3, _, _, _, _⟩) (v := .int .i64 ((N0.size : Int) + 3)) rfl (by kernel_rfl) (by kernel_rfl) (by kernel_rfl) (fun _ _ _ h => h) (Or.inl ⟨by rfl, ?_⟩) (by assumption) ?_
    · (intro v hv; have h1 := HG1.out; have h2 := HZ'.out; have h3 := HSZ'.out; go_simp; rw [IntKind.wrap_i64]; omega)
    simp only [Act.put, List.setIfInBounds_toArray, List.set_cons_zero, List.set_cons_succ]
    refine wpAnyH_take (i := 8) (oi := ⟨some 84, .move (.tmp 9), _, _, _, _⟩) (v := .string X) rfl (by kernel_rfl) (by kernel_rfl) (by kernel_rfl) (fun _ _ _ h => h) (Or.inl ⟨by rfl, ?_⟩) (by assumption) ?_
    · (intro v hv; go_simp)
    simp only [Act.put, List.setIfInBounds_toArray, List.set_cons_zero, List.set_cons_succ]
    refine wpAnyH_take (i := 9) (oi := ⟨some 85, .call _, _, _, _, _⟩) (v := .int .i64 (X.size : Int)) rfl (by kernel_rfl) (by kernel_rfl) (by kernel_rfl) (fun _ _ _ h => h) (Or.inl ⟨by rfl, ?_⟩) (by assumption) ?_
    · (intro v hv; go_simp)
    simp only [Act.put, List.setIfInBounds_toArray, List.set_cons_zero, List.set_cons_succ]
    refine wpAnyH_take (i := 10) (oi := ⟨some 86, .binOp .add 3 (.tmp 83) (.tmp 85) 3, _, _, _, _⟩) (v := .int .i64 ((N0.size : Int) + 3 + (X.size : Int))) rfl (by kernel_rfl) (by kernel_rfl) (by kernel_rfl) (fun _ _ _ h => h) (Or.inl ⟨by rfl, ?_⟩) (by assumption) ?_
    · (intro v hv; have h1 := HG1.out; have h2 := HZ'.out; have h3 := HSZ'.out; go_simp; rw [IntKind.wrap_i64]; omega)
    simp only [Act.put, List.setIfInBounds_toArray, List.set_cons_zero, List.set_cons_succ]
    refine wpAnyH_take (i := 11) (oi := ⟨some 87, .binOp .geq 3 (.tmp 81) (.tmp 86) 3, _, _, _, _⟩) (v := .bool true) rfl (by kernel_rfl) (by kernel_rfl) (by kernel_rfl) (fun _ _ _ h => h) (Or.inl ⟨by rfl, ?_⟩) (by assumption) ?_
    · (intro v hv; have h1 := HG1.out; have e : decide ((N0.size : Int) + 3 + (X.size : Int) ≤ (S.size : Int)) = true := decide_eq_true (by omega); go_simp)
    simp only [Act.put, List.setIfInBounds_toArray, List.set_cons_zero, List.set_cons_succ]
    refine wpAnyH_take (i := 12) (oi := ⟨some 88, .pick (.tmp 79) (.tmp 87) (.const (.bool false)), _, _, _, _⟩) (v := .bool true) rfl (by kernel_rfl) (by kernel_rfl) (by kernel_rfl) (fun _ _ _ h => h) (Or.inl ⟨by rfl, ?_⟩) (by assumption) ?_
    · (intro v hv; go_simp)
    simp only [Act.put, List.setIfInBounds_toArray, List.set_cons_zero, List.set_cons_succ]
    refine wpAnyH_take (i := 13) (oi := ⟨some 89, .move (.tmp 88), _, _, _, _⟩) (v := .bool true) rfl (by kernel_rfl) (by kernel_rfl) (by kernel_rfl) (fun _ _ _ h => h) (Or.inl ⟨by rfl, ?_⟩) (by assumption) ?_
    · (intro v hv; go_simp)
    simp only [Act.put, List.setIfInBounds_toArray, List.set_cons_zero, List.set_cons_succ]
    refine wpAnyH_take (i := 14) (oi := ⟨some 90, .move (.tmp 6), _, _, _, _⟩) (v := .string S) rfl (by kernel_rfl) (by kernel_rfl) (by kernel_rfl) (fun _ _ _ h => h) (Or.inl ⟨by rfl, ?_⟩) (by assumption) ?_
    · (intro v hv; go_simp)
    simp only [Act.put, List.setIfInBounds_toArray, List.set_cons_zero, List.set_cons_succ]
    refine wpAnyH_take (i := 15) (oi := ⟨some 91, .move (.tmp 8), _, _, _, _⟩) (v := .int .i64 (N0.size : Int)) rfl (by kernel_rfl) (by kernel_rfl) (by kernel_rfl) (fun _ _ _ h => h) (Or.inl ⟨by rfl, ?_⟩) (by assumption) ?_
    · (intro v hv; go_simp)
    simp only [Act.put, List.setIfInBounds_toArray, List.set_cons_zero, List.set_cons_succ]
    refine wpAnyH_take (i := 16) (oi := ⟨some 92, .slice 9 (.tmp 90) none (some (.tmp 91)) none, _, _, _, _⟩) (v := .string N0) rfl (by kernel_rfl) (by kernel_rfl) (by kernel_rfl) (fun _ _ _ h => h) (Or.inl ⟨by rfl, ?_⟩) (by assumption) ?_
    · (intro v hv; have h1 := HG1.out; have h2 := HZ'.out; have h3 := HSZ'.out; have g2 := HG2.out; have g3 := HG3.out; have g4 := HG4.out; go_simp; try omega)
    simp only [Act.put, List.setIfInBounds_toArray, List.set_cons_zero, List.set_cons_succ]
    refine wpAnyH_take (i := 17) (oi := ⟨some 93, .fieldAddr 29 (.tmp 2) 1, _, _, _, _⟩) (v := .pointer (some ⟨w.heap.size, 1, none⟩)) rfl (by kernel_rfl) (by kernel_rfl) (by kernel_rfl) (fun _ _ _ h => h) (Or.inl ⟨by rfl, ?_⟩) (by assumption) ?_
    · (intro v hv; go_simp)
    simp only [Act.put, List.setIfInBounds_toArray, List.set_cons_zero, List.set_cons_succ]
    refine wpAnyH_take (i := 18) (oi := ⟨some 94, .load 9 (.tmp 93), _, _, _, _⟩) (v := .string N0) rfl (by kernel_rfl) (by kernel_rfl) (by kernel_rfl) (fun _ _ _ h => h) (Or.inl ⟨by rfl, ?_⟩) (by assumption) ?_
    · (exact fun v hv => run_load_of 9 (.tmp 93) ⟨w.heap.size, 1, none⟩ rfl (.string N0) (load9 (by rw [← HN0.out]; exact (hv.1.cells l0).2.1)))
    simp only [Act.put, List.setIfInBounds_toArray, List.set_cons_zero, List.set_cons_succ]
    refine wpAnyH_take (i := 19) (oi := ⟨some 95, .binOp .eql 9 (.tmp 92) (.tmp 94) 9, _, _, _, _⟩) (v := .bool true) rfl (by kernel_rfl) (by kernel_rfl) (by kernel_rfl) (fun _ _ _ h => h) (Or.inl ⟨by rfl, ?_⟩) (by assumption) ?_
    · (intro v hv; go_simp)
    simp only [Act.put, List.setIfInBounds_toArray, List.set_cons_zero, List.set_cons_succ]
    refine wpAnyH_take (i := 20) (oi := ⟨some 96, .pick (.tmp 89) (.tmp 95) (.const (.bool false)), _, _, _, _⟩) (v := .bool true) rfl (by kernel_rfl) (by kernel_rfl) (by kernel_rfl) (fun _ _ _ h => h) (Or.inl ⟨by rfl, ?_⟩) (by assumption) ?_
    · (intro v hv; go_simp)
    simp only [Act.put, List.setIfInBounds_toArray, List.set_cons_zero, List.set_cons_succ]
    refine wpAnyH_take (i := 21) (oi := ⟨some 97, .move (.tmp 96), _, _, _, _⟩) (v := .bool true) rfl (by kernel_rfl) (by kernel_rfl) (by kernel_rfl) (fun _ _ _ h => h) (Or.inl ⟨by rfl, ?_⟩) (by assumption) ?_
    · (intro v hv; go_simp)
    simp only [Act.put, List.setIfInBounds_toArray, List.set_cons_zero, List.set_cons_succ]
    refine wpAnyH_take (i := 22) (oi := ⟨some 98, .move (.tmp 6), _, _, _, _⟩) (v := .string S) rfl (by kernel_rfl) (by kernel_rfl) (by kernel_rfl) (fun _ _ _ h => h) (Or.inl ⟨by rfl, ?_⟩) (by assumption) ?_
    · (intro v hv; go_simp)
    simp only [Act.put, List.setIfInBounds_toArray, List.set_cons_zero, List.set_cons_succ]
    refine wpAnyH_take (i := 23) (oi := ⟨some 99, .move (.tmp 8), _, _, _, _⟩) (v := .int .i64 (N0.size : Int)) rfl (by kernel_rfl) (by kernel_rfl) (by kernel_rfl) (fun _ _ _ h => h) (Or.inl ⟨by rfl, ?_⟩) (by assumption) ?_
    · (intro v hv; go_simp)
    simp only [Act.put, List.setIfInBounds_toArray, List.set_cons_zero, List.set_cons_succ]
    refine wpAnyH_take (i := 24) (oi := ⟨some 100, .move (.tmp 8), _, _, _, _⟩) (v := .int .i64 (N0.size : Int)) rfl (by kernel_rfl) (by kernel_rfl) (by kernel_rfl) (fun _ _ _ h => h) (Or.inl ⟨by rfl, ?_⟩) (by assumption) ?_
    · (intro v hv; go_simp)
    simp only [Act.put, List.setIfInBounds_toArray, List.set_cons_zero, List.set_cons_succ]
    refine wpAnyH_take (i := 25) (oi := ⟨some 101, .binOp .add 3 (.tmp 100) (.const (.int .i64 3)) 3, _, _, _, _⟩) (v := .int .i64 ((N0.size : Int) + 3)) rfl (by kernel_rfl) (by kernel_rfl) (by kernel_rfl) (fun _ _ _ h => h) (Or.inl ⟨by rfl, ?_⟩) (by assumption) ?_
    · (intro v hv; have h1 := HG1.out; have h2 := HZ'.out; have h3 := HSZ'.out; go_simp; rw [IntKind.wrap_i64]; omega)
    simp only [Act.put, List.setIfInBounds_toArray, List.set_cons_zero, List.set_cons_succ]
    refine wpAnyH_take (i := 26) (oi := ⟨some 102, .slice 9 (.tmp 98) (some (.tmp 99)) (some (.tmp 101)) none, _, _, _, _⟩) (v := .string ⟨#[58, 47, 47]⟩) rfl (by kernel_rfl) (by kernel_rfl) (by kernel_rfl) (fun _ _ _ h => h) (Or.inl ⟨by rfl, ?_⟩) (by assumption) ?_
    · (intro v hv; have h1 := HG1.out; have h2 := HZ'.out; have h3 := HSZ'.out; have g3 := HG3.out; have g4 := HG4.out; go_simp; rw [if_pos ⟨by omega, by omega⟩, if_pos (by omega), show ((N0.size : Int) + 3).toNat = N0.size + 3 by omega, g3])
    simp only [Act.put, List.setIfInBounds_toArray, List.set_cons_zero, List.set_cons_succ]
    refine wpAnyH_take (i := 27) (oi := ⟨some 103, .binOp .eql 9 (.tmp 102) (.const (.string ⟨#[58, 47, 47]⟩)) 9, _, _, _, _⟩) (v := .bool true) rfl (by kernel_rfl) (by kernel_rfl) (by kernel_rfl) (fun _ _ _ h => h) (Or.inl ⟨by rfl, ?_⟩) (by assumption) ?_
    · (intro v hv; go_simp)
    simp only [Act.put, List.setIfInBounds_toArray, List.set_cons_zero, List.set_cons_succ]
    refine wpAnyH_take (i := 28) (oi := ⟨some 104, .pick (.tmp 97) (.tmp 103) (.const (.bool false)), _, _, _, _⟩) (v := .bool true) rfl (by kernel_rfl) (by kernel_rfl) (by kernel_rfl) (fun _ _ _ h => h) (Or.inl ⟨by rfl, ?_⟩) (by assumption) ?_
    · (intro v hv; go_simp)
    simp only [Act.put, List.setIfInBounds_toArray, List.set_cons_zero, List.set_cons_succ]
    refine wpAnyH_take (i := 29) (oi := ⟨some 105, .move (.tmp 104), _, _, _, _⟩) (v := .bool true) rfl (by kernel_rfl) (by kernel_rfl) (by kernel_rfl) (fun _ _ _ h => h) (Or.inl ⟨by rfl, ?_⟩) (by assumption) ?_
    · (intro v hv; go_simp)
    simp only [Act.put, List.setIfInBounds_toArray, List.set_cons_zero, List.set_cons_succ]
    refine wpAnyH_take (i := 30) (oi := ⟨some 106, .move (.tmp 6), _, _, _, _⟩) (v := .string S) rfl (by kernel_rfl) (by kernel_rfl) (by kernel_rfl) (fun _ _ _ h => h) (Or.inl ⟨by rfl, ?_⟩) (by assumption) ?_
    · (intro v hv; go_simp)
    simp only [Act.put, List.setIfInBounds_toArray, List.set_cons_zero, List.set_cons_succ]
    refine wpAnyH_take (i := 31) (oi := ⟨some 107, .move (.tmp 8), _, _, _, _⟩) (v := .int .i64 (N0.size : Int)) rfl (by kernel_rfl) (by kernel_rfl) (by kernel_rfl) (fun _ _ _ h => h) (Or.inl ⟨by rfl, ?_⟩) (by assumption) ?_
    · (intro v hv; go_simp)
    simp only [Act.put, List.setIfInBounds_toArray, List.set_cons_zero, List.set_cons_succ]
    refine wpAnyH_take (i := 32) (oi := ⟨some 108, .binOp .add 3 (.tmp 107) (.const (.int .i64 3)) 3, _, _, _, _⟩) (v := .int .i64 ((N0.size : Int) + 3)) rfl (by kernel_rfl) (by kernel_rfl) (by kernel_rfl) (fun _ _ _ h => h) (Or.inl ⟨by rfl, ?_⟩) (by assumption) ?_
    · (intro v hv; have h1 := HG1.out; have h2 := HZ'.out; have h3 := HSZ'.out; go_simp; rw [IntKind.wrap_i64]; omega)
    simp only [Act.put, List.setIfInBounds_toArray, List.set_cons_zero, List.set_cons_succ]
    refine wpAnyH_take (i := 33) (oi := ⟨some 109, .move (.tmp 8), _, _, _, _⟩) (v := .int .i64 (N0.size : Int)) rfl (by kernel_rfl) (by kernel_rfl) (by kernel_rfl) (fun _ _ _ h => h) (Or.inl ⟨by rfl, ?_⟩) (by assumption) ?_
    · (intro v hv; go_simp)
    simp only [Act.put, List.setIfInBounds_toArray, List.set_cons_zero, List.set_cons_succ]
    refine wpAnyH_take (i := 34) (oi := ⟨some 110, .binOp .add 3 (.tmp 109) (.const (.int .i64 3)) 3, _, _, _, _⟩) (v := .int .i64 ((N0.size : Int) + 3)) rfl (by kernel_rfl) (by kernel_rfl) (by kernel_rfl) (fun _ _ _ h => h) (Or.inl ⟨by rfl, ?_⟩) (by assumption) ?_
    · (intro v hv; have h1 := HG1.out; have h2 := HZ'.out; have h3 := HSZ'.out; go_simp; rw [IntKind.wrap_i64]; omega)
    simp only [Act.put, List.setIfInBounds_toArray, List.set_cons_zero, List.set_cons_succ]
    refine wpAnyH_take (i := 35) (oi := ⟨some 111, .move (.tmp 9), _, _, _, _⟩) (v := .string X) rfl (by kernel_rfl) (by kernel_rfl) (by kernel_rfl) (fun _ _ _ h => h) (Or.inl ⟨by rfl, ?_⟩) (by assumption) ?_
    · (intro v hv; go_simp)
    simp only [Act.put, List.setIfInBounds_toArray, List.set_cons_zero, List.set_cons_succ]
    refine wpAnyH_take (i := 36) (oi := ⟨some 112, .call _, _, _, _, _⟩) (v := .int .i64 (X.size : Int)) rfl (by kernel_rfl) (by kernel_rfl) (by kernel_rfl) (fun _ _ _ h => h) (Or.inl ⟨by rfl, ?_⟩) (by assumption) ?_
    · (intro v hv; go_simp)
    simp only [Act.put, List.setIfInBounds_toArray, List.set_cons_zero, List.set_cons_succ]
    refine wpAnyH_take (i := 37) (oi := ⟨some 113, .binOp .add 3 (.tmp 110) (.tmp 112) 3, _, _, _, _⟩) (v := .int .i64 ((N0.size : Int) + 3 + (X.size : Int))) rfl (by kernel_rfl) (by kernel_rfl) (by kernel_rfl) (fun _ _ _ h => h) (Or.inl ⟨by rfl, ?_⟩) (by assumption) ?_
    · (intro v hv; have h1 := HG1.out; have h2 := HZ'.out; have h3 := HSZ'.out; go_simp; rw [IntKind.wrap_i64]; omega)
    simp only [Act.put, List.setIfInBounds_toArray, List.set_cons_zero, List.set_cons_succ]
    refine wpAnyH_take (i := 38) (oi := ⟨some 114, .slice 9 (.tmp 106) (some (.tmp 108)) (some (.tmp 113)) none, _, _, _, _⟩) (v := .string X) rfl (by kernel_rfl) (by kernel_rfl) (by kernel_rfl) (fun _ _ _ h => h) (Or.inl ⟨by rfl, ?_⟩) (by assumption) ?_
    · (intro v hv; have h1 := HG1.out; have h2 := HZ'.out; have h3 := HSZ'.out; have g3 := HG3.out; have g4 := HG4.out; go_simp; rw [if_pos ⟨by omega, by omega⟩, if_pos ⟨by omega, by omega⟩, show ((N0.size : Int) + 3).toNat = N0.size + 3 by omega, show ((N0.size : Int) + 3 + (X.size : Int)).toNat = N0.size + 3 + X.size by omega, g4])
    simp only [Act.put, List.setIfInBounds_toArray, List.set_cons_zero, List.set_cons_succ]
    refine wpAnyH_take (i := 39) (oi := ⟨some 115, .move (.tmp 9), _, _, _, _⟩) (v := .string X) rfl (by kernel_rfl) (by kernel_rfl) (by kernel_rfl) (fun _ _ _ h => h) (Or.inl ⟨by rfl, ?_⟩) (by assumption) ?_
    · (intro v hv; go_simp)
    simp only [Act.put, List.setIfInBounds_toArray, List.set_cons_zero, List.set_cons_succ]
    refine wpAnyH_take (i := 40) (oi := ⟨some 116, .binOp .eql 9 (.tmp 114) (.tmp 115) 9, _, _, _, _⟩) (v := .bool true) rfl (by kernel_rfl) (by kernel_rfl) (by kernel_rfl) (fun _ _ _ h => h) (Or.inl ⟨by rfl, ?_⟩) (by assumption) ?_
    · (intro v hv; go_simp)
    simp only [Act.put, List.setIfInBounds_toArray, List.set_cons_zero, List.set_cons_succ]
    refine wpAnyH_take (i := 41) (oi := ⟨some 117, .pick (.tmp 105) (.tmp 116) (.const (.bool false)), _, _, _, _⟩) (v := .bool true) rfl (by kernel_rfl) (by kernel_rfl) (by kernel_rfl) (fun _ _ _ h => h) (Or.inl ⟨by rfl, ?_⟩) (by assumption) ?_
    · (intro v hv; go_simp)
    simp only [Act.put, List.setIfInBounds_toArray, List.set_cons_zero, List.set_cons_succ]
    refine wpAnyH_take (i := 42) (oi := ⟨some 118, .move (.tmp 117), _, _, _, _⟩) (v := .bool true) rfl (by kernel_rfl) (by kernel_rfl) (by kernel_rfl) (fun _ _ _ h => h) (Or.inl ⟨by rfl, ?_⟩) (by assumption) ?_
    · (intro v hv; go_simp)
    simp only [Act.put, List.setIfInBounds_toArray, List.set_cons_zero, List.set_cons_succ]
    refine wpAnyH_take (i := 43) (oi := ⟨some 119, .load 29 (.tmp 2), _, _, _, _⟩) (v := .agg (cO a0)) rfl (by kernel_rfl) (by kernel_rfl) (by kernel_rfl) (fun _ _ _ h => h) (Or.inl ⟨by rfl, ?_⟩) (by assumption) ?_
    · (exact fun v hv => run_load_of 29 (.tmp 2) ⟨w.heap.size, 0, none⟩ rfl (.agg (cO a0)) (hv.1.load l0))
    simp only [Act.put, List.setIfInBounds_toArray, List.set_cons_zero, List.set_cons_succ]
    refine wpAnyH_take (i := 44) (oi := ⟨some 120, .load 29 (.tmp 3), _, _, _, _⟩) (v := .agg (cO a1)) rfl (by kernel_rfl) (by kernel_rfl) (by kernel_rfl) (fun _ _ _ h => h) (Or.inl ⟨by rfl, ?_⟩) (by assumption) ?_
    · (exact fun v hv => run_load_of 29 (.tmp 3) ⟨(w.heap.size + 1), 0, none⟩ rfl (.agg (cO a1)) (hv.2.load l1))
    simp only [Act.put, List.setIfInBounds_toArray, List.set_cons_zero, List.set_cons_succ]
    refine wpAnyH_take (i := 46) (oi := ⟨some 122, .load 29 (.tmp 2), _, _, _, _⟩) (v := .agg (cO a0)) rfl (by kernel_rfl) (by kernel_rfl) (by kernel_rfl) (fun _ _ _ h => h) (Or.inl ⟨by rfl, ?_⟩) (by assumption) ?_
    · (exact fun v hv => run_load_of 29 (.tmp 2) ⟨w.heap.size, 0, none⟩ rfl (.agg (cO a0)) (hv.1.load l0))
    simp only [Act.put, List.setIfInBounds_toArray, List.set_cons_zero, List.set_cons_succ]
    refine wpAnyH_take (i := 47) (oi := ⟨some 123, .load 29 (.tmp 3), _, _, _, _⟩) (v := .agg (cO a1)) rfl (by kernel_rfl) (by kernel_rfl) (by kernel_rfl) (fun _ _ _ h => h) (Or.inl ⟨by rfl, ?_⟩) (by assumption) ?_
    · (exact fun v hv => run_load_of 29 (.tmp 3) ⟨(w.heap.size + 1), 0, none⟩ rfl (.agg (cO a1)) (hv.2.load l1))
    simp only [Act.put, List.setIfInBounds_toArray, List.set_cons_zero, List.set_cons_succ]
    refine wpAnyH_take (i := 48) (oi := ⟨some 124, .binOp .eql 29 (.tmp 122) (.tmp 123) 29, _, _, _, _⟩) (v := .bool r1) rfl (by kernel_rfl) (by kernel_rfl) (by kernel_rfl) (fun _ _ _ h => h) (Or.inl ⟨by rfl, ?_⟩) (by assumption) ?_
    · (intro v hv; have he := HEQ.out; go_simp)
    simp only [Act.put, List.setIfInBounds_toArray, List.set_cons_zero, List.set_cons_succ]
    refine wpAnyH_ready (rs := [45]) (by kernel_rfl) (by simp) ?_
    refine AllReadyH.cons (o := ⟨some 121, .call ⟨.value (.func 18), #[.tmp 119, .tmp 120], _⟩, _, _, _, _⟩) rfl (fun K hK => ?_) AllReadyH.nil
    go_simp
    go_at_call 18
    refine (C1.out _ (HM4.out.later hc)).mono ?_
    rintro e x ⟨rfl, hB⟩
    have hc := below_trans hc hB
    refine hK.out _ _ ⟨HO4.out.later hc, HP4.out.later hc⟩ (fun hS => ?_)
    clear hB
    refine wpAnyH_take (i := 49) (oi := ⟨some 125, .binOp .eql 4 (.tmp 121) (.tmp 124) 4, _, _, _, _⟩) (v := .bool true) rfl (by kernel_rfl) (by kernel_rfl) (by kernel_rfl) (fun _ _ _ h => h) (Or.inl ⟨by rfl, ?_⟩) (by assumption) ?_
    · (intro v hv; go_simp)
    simp only [Act.put, List.setIfInBounds_toArray, List.set_cons_zero, List.set_cons_succ]
    refine wpAnyH_take (i := 50) (oi := ⟨some 126, .pick (.tmp 118) (.tmp 125) (.const (.bool false)), _, _, _, _⟩) (v := .bool true) rfl (by kernel_rfl) (by kernel_rfl) (by kernel_rfl) (fun _ _ _ h => h) (Or.inl ⟨by rfl, ?_⟩) (by assumption) ?_
    · (intro v hv; go_simp)
    simp only [Act.put, List.setIfInBounds_toArray, List.set_cons_zero, List.set_cons_succ]
    refine wpAnyH_take (i := 51) (oi := ⟨some 4, .assign (.tmp 126), _, _, _, _⟩) (v := .bool true) rfl (by kernel_rfl) (by kernel_rfl) (by kernel_rfl) (fun _ _ _ h => h) (Or.inl ⟨by rfl, ?_⟩) (by assumption) ?_
    · (intro v hv; go_simp)
    simp only [Act.put, List.setIfInBounds_toArray, List.set_cons_zero, List.set_cons_succ]
    refine wpAnyH_done (by kernel_rfl) ?_ _
    go_wp2
    go_ret
    exact ⟨rfl, HX.out.trans ((below_trans HB4.out hc).mono HX.out.size)⟩
  obtain ⟨e0, rfl, rfl, rfl⟩ := KN.out (by first | rfl | trivial)
  have HE0 := Lib.hid e0
  clear KN KY
  have h0 := HO3.out
  have h1 := HP3.out
  go_wp2_with (first | ((with_reducible refine wp_load29 (o := ⟨some 53, .load 29 (.tmp 2), _, _, _, _⟩) ?_ (.tmp 2) ?_ w.heap.size ?_ a0 l0 h0 ?_); (· rfl); (· rfl); (· rfl); simp only [Act.put, List.setIfInBounds_toArray, List.set_cons_zero, List.set_cons_succ]) | ((with_reducible refine wp_load29 (o := ⟨some 54, .load 29 (.tmp 3), _, _, _, _⟩) ?_ (.tmp 3) ?_ (w.heap.size + 1) ?_ a1 l1 h1 ?_); (· rfl); (· rfl); (· rfl); simp only [Act.put, List.setIfInBounds_toArray, List.set_cons_zero, List.set_cons_succ]))
  refine (C1.out _ HM3.out).mono ?_
  rintro e Y1 ⟨rfl, hB⟩
  have HB4 := Lib.hid (below_trans HB3.out hB)
  have HO4 := Lib.hid (HO3.out.later hB)
  have HP4 := Lib.hid (HP3.out.later hB)
  have HM4 := Lib.hid (HM3.out.later hB)
  clear HB3 HO3 HP3 HM3
  clear hB h0 h1 e0
  have h0 := HP4.out
  have h1 := HO4.out
  go_wp2_with (first | ((with_reducible refine wp_load29 (o := ⟨some 59, .load 29 (.tmp 3), _, _, _, _⟩) ?_ (.tmp 3) ?_ (w.heap.size + 1) ?_ a1 l1 h0 ?_); (· rfl); (· rfl); (· rfl); simp only [Act.put, List.setIfInBounds_toArray, List.set_cons_zero, List.set_cons_succ]) | ((with_reducible refine wp_load29 (o := ⟨some 60, .load 29 (.tmp 2), _, _, _, _⟩) ?_ (.tmp 2) ?_ w.heap.size ?_ a0 l0 h1 ?_); (· rfl); (· rfl); (· rfl); simp only [Act.put, List.setIfInBounds_toArray, List.set_cons_zero, List.set_cons_succ]))
  refine (C2.out _ HM4.out).mono ?_
  rintro e Y2 ⟨rfl, hB⟩
  have HB5 := Lib.hid (below_trans HB4.out hB)
  have HO5 := Lib.hid (HO4.out.later hB)
  have HP5 := Lib.hid (HP4.out.later hB)
  have HM5 := Lib.hid (HM4.out.later hB)
  clear HB4 HO4 HP4 HM4
  clear hB h0 h1
  have h0 := HO5.out
  have h1 := HO5.out
  go_wp2_with (first | ((with_reducible refine wp_load29 (o := ⟨some 65, .load 29 (.tmp 2), _, _, _, _⟩) ?_ (.tmp 2) ?_ w.heap.size ?_ a0 l0 h0 ?_); (· rfl); (· rfl); (· rfl); simp only [Act.put, List.setIfInBounds_toArray, List.set_cons_zero, List.set_cons_succ]) | ((with_reducible refine wp_load29 (o := ⟨some 66, .load 29 (.tmp 2), _, _, _, _⟩) ?_ (.tmp 2) ?_ w.heap.size ?_ a0 l0 h1 ?_); (· rfl); (· rfl); (· rfl); simp only [Act.put, List.setIfInBounds_toArray, List.set_cons_zero, List.set_cons_succ]))
  refine (C0.out _ HM5.out).mono ?_
  rintro e Y3 ⟨rfl, hB⟩
  have HB6 := Lib.hid (below_trans HB5.out hB)
  have HO6 := Lib.hid (HO5.out.later hB)
  have HP6 := Lib.hid (HP5.out.later hB)
  have HM6 := Lib.hid (HM5.out.later hB)
  clear HB5 HO5 HP5 HM5
  clear hB h0 h1
  go_wp2
  go_ret
  exact ⟨rfl, HX.out.trans (HB6.out.mono HX.out.size)⟩

/-! ### The row's step -/
theorem reads (os : Os) {H : Type} (enc : TypeId × Value → H) : (DataW.whole enc Tryz.prog ((Card.laidWorld os).forCall (fun _ _ => 0) ⟨#[], #[.agg #[.bool false, .string ByteArray.empty, .int .i64 0, .string ByteArray.empty, .int .i64 0, .int .i64 0, .int .i64 0, .int .i64 0, .int .i64 0, .int .i64 0, .int .i64 0, .int .i64 0, .int .i64 0, .int .i64 0], .agg #[.bool false, .string ByteArray.empty, .int .i64 0, .string ByteArray.empty, .int .i64 0, .int .i64 0, .int .i64 0, .int .i64 0, .int .i64 0, .int .i64 0, .int .i64 0, .int .i64 0, .int .i64 0, .int .i64 0]], []⟩).memory Tryz.f8.params.toList Rows.originNullSpec.vars false (#[.agg #[.bool false, .string ByteArray.empty, .int .i64 0, .string ByteArray.empty, .int .i64 0, .int .i64 0, .int .i64 0, .int .i64 0, .int .i64 0, .int .i64 0, .int .i64 0, .int .i64 0, .int .i64 0, .int .i64 0], .agg #[.bool false, .string ByteArray.empty, .int .i64 0, .string ByteArray.empty, .int .i64 0, .int .i64 0, .int .i64 0, .int .i64 0, .int .i64 0, .int .i64 0, .int .i64 0, .int .i64 0, .int .i64 0, .int .i64 0]] : Array Value).toList 8).map (fun x => (x.1, x.2.1)) = some ([.agg [.lit (.bool false), .lit (.string []), .agg [.lit (.int .i64 0), .lit (.string []), .lit (.int .i64 0), .agg [.lit (.int .i64 0), .lit (.int .i64 0), .lit (.int .i64 0), .lit (.int .i64 0), .lit (.int .i64 0), .lit (.int .i64 0), .lit (.int .i64 0), .lit (.int .i64 0)]], .lit (.int .i64 0)], .agg [.lit (.bool false), .lit (.string []), .agg [.lit (.int .i64 0), .lit (.string []), .lit (.int .i64 0), .agg [.lit (.int .i64 0), .lit (.int .i64 0), .lit (.int .i64 0), .lit (.int .i64 0), .lit (.int .i64 0), .lit (.int .i64 0), .lit (.int .i64 0), .lit (.int .i64 0)]], .lit (.int .i64 0)]], []) := by kernel_rfl
set_option maxRecDepth 100000 in
theorem lifted (os : Os) (started : os.Started) (H : Type) (enc : TypeId × Value → H) (F : Stop.Interp) :
    ReturnsInHanded {} Tryz.checked os 8 .any ((OpenSpec.ofChange Rows.originNullSpec).preRow enc Tryz.prog Tryz.f8 Rows.originNullRow.domain false Rows.originNullRow.laid) (((OpenSpec.ofChange Rows.originNullSpec).at F).post enc Tryz.prog Tryz.f8 false true false false) := by
  obtain ⟨⟨x1, x2, x3⟩, hx, hx1⟩ := Option.map_eq_some_iff.1 (reads os enc)
  simp only [Prod.mk.injEq] at hx1
  obtain ⟨rfl, rfl⟩ := hx1
  refine returnsInHanded_of_row (C := Tryz.checked) (s := OpenSpec.ofChange Rows.originNullSpec) own started (by kernel_rfl) Tryz.func8
    (witness_row_at (enc := enc) (C := Tryz.checked) false (Card.laidWorld os) #[.agg #[.bool false, .string ByteArray.empty, .int .i64 0, .string ByteArray.empty, .int .i64 0, .int .i64 0, .int .i64 0, .int .i64 0, .int .i64 0, .int .i64 0, .int .i64 0, .int .i64 0, .int .i64 0, .int .i64 0], .agg #[.bool false, .string ByteArray.empty, .int .i64 0, .string ByteArray.empty, .int .i64 0, .int .i64 0, .int .i64 0, .int .i64 0, .int .i64 0, .int .i64 0, .int .i64 0, .int .i64 0, .int .i64 0, .int .i64 0]] rfl (by kernel_rfl) (by kernel_rfl) (by kernel_rfl)
      (OpenSpec.preRow_of_cond 8 hx (by kernel_rfl) (fun k hk => by cases hk) (by kernel_rfl) (Card.laid_met os _))) ?_
  intro W base args ds gs before hval0 hW _ _ _ hL hsh _
  obtain ⟨m, hmax⟩ := Card.maxLen_int hsh
  have hm : Six.At m W := ⟨hmax, Six.tab_of hL⟩
  have hval : ∀ (j : Nat) t v, Tryz.f8.params[j]? = some t → args[j]? = some v → Value.okWide Tryz.prog W .any base t v := hval0
  have hW' := hW
  obtain ⟨p, q, hA0, hV, rfl, hfz, hnd⟩ := hW
  have hA : DataW.TrodAll enc Tryz.prog W 0 (fun _ => true) true Tryz.f8.params.toList args.toList ds p := hA0
  rw [Tryz.params8] at hA hval
  obtain ⟨v0, vs0, d0, ds0, p0, q0, hargs0, rfl, rfl, t0, r0⟩ := trodAll_cons hA
  obtain ⟨v1, vs1, d1, ds1, p1, q1, hargs1, rfl, rfl, t1, r1⟩ := trodAll_cons r0
  obtain ⟨rfl, rfl, rfl⟩ := trodAll_nil r1
  obtain rfl : args = #[v0, v1] := by cases args; simp_all
  obtain ⟨rfl, rfl⟩ := trodVars_none hV
  have k0 := t0
  have lt0 : ∀ x ∈ p0, x.block < W.heap.size := by obtain ⟨m, hm⟩ := k0; exact DataW.trod_lt m _ _ _ hm
  obtain ⟨a0, l0, rfl, w0⟩ := Origin.open_origin (hval 0 29 v0 rfl rfl) t0
  have k1 := t1
  have lt1 : ∀ x ∈ p1, x.block < W.heap.size := by obtain ⟨m, hm⟩ := k1; exact DataW.trod_lt m _ _ _ hm
  obtain ⟨a1, l1, rfl, w1⟩ := Origin.open_origin (hval 1 29 v1 rfl rfl) t1
  clear hA0 hval0
  simp only [List.append_nil] at hW'
  refine (walk a0 l0 a1 l1 w0 w1 m W hm ).mono fun e W' ⟨he, bel⟩ => ?_
  subst he
  exact ⟨_, rfl, _, _, _, [], _, [], hW', trodAll_mk1 (shut_bool Tryz.underlying4 _), (trodAll_cons_mk (Below.trod laidOut (by kernel_rfl) (of_decide_eq_true (by kernel_rfl)) k0 bel lt0) (trodAll_cons_mk (Below.trod laidOut (by kernel_rfl) (of_decide_eq_true (by kernel_rfl)) k1 bel lt1) trodAll_mk0)), rfl, bel.frame _, fun h => by cases h⟩

theorem said : Rows.originNullRow.holds Tryz.pinned (OpenSpec.ofChange Rows.originNullSpec) :=
  OpenClaim.holds_of_cond 8 Tryz.f8 rfl rfl rfl rfl rfl rfl rfl ⟨rfl, rfl, rfl, rfl, rfl⟩ rfl rfl rfl rfl rfl (by kernel_rfl) Tryz.func8 (by kernel_rfl)
    (of_decide_eq_true (by kernel_rfl)) (by unfold Func.isWrapper; first | (rw [if_pos (by decide +kernel)]; kernel_rfl) | (rw [if_neg (by decide +kernel)]; exact ⟨rfl, rfl⟩))
    (fun os started H enc _ F => by rw [OpenClaim.pre_eq_preRow]; exact lifted os started H enc F)

/-- No parameter wants a stand-in; the program's own looks are on. -/
theorem plain (f : FuncId) (fn : Func) (hf : Tryz.pinned.checked.prog.funcNamed Rows.originNullRow.func = some f) (hfn : Tryz.pinned.checked.prog.funcs[f]? = some fn) :
    true = Tryz.pinned.checked.prog.looks [] ∧ ∀ (j : Nat) t, fn.params[j]? = some t → Tryz.pinned.checked.prog.wantsStandIn t = false := by
  obtain rfl : f = 8 := Option.some.inj ((show Tryz.prog.funcNamed Rows.originNullRow.func = some 8 by kernel_rfl).symm.trans hf) |>.symm
  obtain rfl : fn = Tryz.f8 := (Option.some.inj (Tryz.func8.symm.trans hfn)).symm
  refine ⟨by kernel_rfl, fun j t ht => ?_⟩
  rw [Tryz.params8] at ht
  obtain rfl : t = 29 := by simpa using Array.mem_of_getElem? ht
  · exact (show Tryz.prog.wantsStandIn 29 = false by kernel_rfl)

/-- The statement: the card. -/
theorem proved : Rows.OriginNullCardSaid :=
  Claim7.holds_tied_plain_at .later [] _ _ _ _ said (fun _ h => by cases h) (by kernel_rfl) (fun _ h => by cases h) originNull_row_tie rfl ⟨rfl, rfl⟩ (by kernel_rfl) rfl plain (by kernel_rfl)
#print axioms proved
end Go.Proofs.YtkhgdcpkhbpemaaGreatDoor.originNull
