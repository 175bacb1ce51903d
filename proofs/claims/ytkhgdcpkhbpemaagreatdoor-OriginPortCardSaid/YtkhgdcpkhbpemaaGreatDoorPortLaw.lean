/-
  WHAT IS PROVED: the card of OriginPort: of any address of the web that may be, whose parts are few and short, any number and any host: another port, scheme or host is another origin; a user, or a path, is not.
  CONDITIONS: none but the card's own: the listed tables read as their texts lay them; the address, the number and the host are any.
-/
import Derived.Test.YtkhgdcpkhbpemaaGreatDoorCards
import Derived.Test.YtkhgdcpkhbpemaaGreatDoorTie
import Derived.WalkKit
import Derived.ProofKit
import Derived.OpenShut
import Derived.ShutString
import Derived.ChangeOld
import Derived.Below
import Derived.Deep.RegionHeld
import Derived.Laws.AppendOwnNone
import Derived.Test.YtkhgdcpkhbpemaaGreatDoorOAwake
import Derived.Test.YtkhgdcpkhbpemaaGreatDoorLaid
import Derived.Test.YtkhgdcpkhbpemaaGreatDoorHOpen
namespace Go.Proofs.YtkhgdcpkhbpemaaGreatDoor.originPort
open Go.ChangeShapes Go.WideShapes Go.ChangeAt Go.RowKit
open Go.ChangeMaps (open_string shut_string)
open Go.Shelf
open Go.Proofs.YtkhgdcpkhbpemaaGreatDoor.Url
open Go.Proofs.YtkhgdcpkhbpemaaGreatDoor.Host (H)
open Go.Proofs.YtkhgdcpkhbpemaaGreatDoor.Path (Strs)
set_option linter.unusedSimpArgs false
set_option linter.unusedVariables false

theorem own : ownKnob Tryz.prog.godebug = none := by kernel_rfl
theorem laidOut : laidOutB Tryz.prog = true := by kernel_rfl

open Go.Proofs.YtkhgdcpkhbpemaaGreatDoor.Show
open Go.Proofs.YtkhgdcpkhbpemaaGreatDoor.Origin
theorem few_sch {u : U} (h : fewU u = true) : u.sch.length ≤ 300 := by
  unfold fewU at h
  simp only [Bool.and_eq_true, le3_iff] at h
  exact h.2.1
set_option maxRecDepth 100000
set_option maxHeartbeats 16000000 in
theorem walk (a0 : U) (v0 : Value) (l0 : a0.h.p.length = 8) (a1 : Int) (a2 : Host.H) (l2 : a2.p.length = 8) (w1 : (Lit.int .i64 a1).wf = true) (w2 : Six.wfH a2) (m : Int) (w : World) (hm : Six.At m w) (s0 : Path.Strs w v0 a0.path) (w0 : (Lit.int .i64 a0.port).wf = true) :
    Calls Tryz.prog 7 #[.agg (cU a0 v0), .int .i64 a1, .agg a2.cells] w fun e w' => e = .returned (.bool true) ∧ Below w.heap.size w w' := by
  have e1 : (w.alloc (.cells (cU a0 v0) 27)).heap.size = w.heap.size + 1 := Array.size_push _
  have b1 : Below w.heap.size w (w.alloc (.cells (cU a0 v0) 27)) := (Below.refl w.heap.size w).alloc (Nat.le_refl _) _
  have b2 : Below w.heap.size w ((w.alloc (.cells (cU a0 v0) 27)).alloc (.cells a2.cells 24)) := b1.alloc (by omega) _
  have HX := Lib.hid b2
  have HU0 := Lib.hid ((UrlAt.new w a0 v0).past (.cells a2.cells 24))
  have HH0 := Lib.hid (show Host.HostAt ((w.alloc (.cells (cU a0 v0) 27)).alloc (.cells a2.cells 24)) (w.heap.size + 1) a2 from by rw [← e1]; exact Host.HostAt.new (w.alloc (.cells (cU a0 v0) 27)) a2)
  have HM0 := Lib.hid (hm.later HX.out)
  have HS0 := Lib.hid (s0.later HX.out)
  clear hm e1 b1 b2 s0
  go_enter Tryz.func7, Tryz.ntmps7
  go_wp2_with fail
  generalize ((w.alloc (.cells (cU a0 v0) 27)).alloc (.cells a2.cells 24)) = X0 at HX HM0 HU0 HH0 HS0 ⊢
  refine (Origin.awake_calls m X0 HM0.out).mono ?_
  rintro e X1 ⟨rfl, hB⟩
  have HB1 := Lib.hid (hB)
  have HU1 := Lib.hid (HU0.out.later hB)
  have HH1 := Lib.hid (HH0.out.later hB)
  have HM1 := Lib.hid (HM0.out.later hB)
  have HS1 := Lib.hid (HS0.out.later hB)
  clear HU0 HH0 HM0 HS0
  clear hB
  obtain ⟨f0, hf0⟩ : ∃ b, fewU a0 = b := ⟨_, rfl⟩
  have hu := HU1.out
  go_wp2_with ((with_reducible refine wp_load27 (o := ⟨some 14, .load 27 (.tmp 3), _, _, _, _⟩) ?_ (.tmp 3) ?_ w.heap.size ?_ a0 v0 l0 hu ?_); (· rfl); (· rfl); (· rfl); simp only [Act.put, List.setIfInBounds_toArray, List.set_cons_zero, List.set_cons_succ])
  refine (few_any a0 v0 l0 f0 hf0 _ HS1.out).mono ?_
  rintro e X2 ⟨rfl, hB⟩
  have HB2 := Lib.hid (below_trans HB1.out hB)
  have HU2 := Lib.hid (HU1.out.later hB)
  have HH2 := Lib.hid (HH1.out.later hB)
  have HM2 := Lib.hid (HM1.out.later hB)
  have HS2 := Lib.hid (HS1.out.later hB)
  clear HB1 HU1 HH1 HM1 HS1
  clear hB hu
  cases f0
  · go_wp2
    go_ret
    exact ⟨rfl, HX.out.trans (HB2.out.mono HX.out.size)⟩
  obtain ⟨D1, hD1⟩ : ∃ b, decide (300 < a2.s.size) = b := ⟨_, rfl⟩
  have hE1 : decide ((300 : Int) < (a2.s.size : Int)) = D1 := by rw [← hD1]; exact decide_eq_decide.2 (by omega)
  have c1 : X2.cell? ⟨(w.heap.size + 1), 1, none⟩ = some (.string a2.s) := (HH2.out.cell 1).trans rfl
  cases D1
  rotate_left
  · go_wp2
    go_ret
    exact ⟨rfl, HX.out.trans (HB2.out.mono HX.out.size)⟩
  have hsz : a2.s.size ≤ 1000 := by have := of_decide_eq_false hD1; omega
  have F0 := few_fit a0 l0 hf0
  have hsc : a0.sch.length ≤ 300 := few_sch hf0
  obtain ⟨b, hb⟩ : ∃ b, mayU a0 = b := ⟨_, rfl⟩
  obtain ⟨z, hz⟩ : ∃ z, webI a0.sch = z := ⟨_, rfl⟩
  obtain ⟨N, hN⟩ : ∃ n, tb a0.sch = n := ⟨_, rfl⟩
  obtain ⟨E, hE⟩ : ∃ b, (N.toList == [104, 116, 116, 112]) = b := ⟨_, rfl⟩
  have hEh : (a0.sch == http) = E := by rw [← hE, Path.tl, list_tb hN]; rfl
  obtain ⟨P, hP⟩ : ∃ b, (a1 == a0.port) = b := ⟨_, rfl⟩
  obtain ⟨G, hG⟩ : ∃ b, Host.sameH a2 a0.h = b := ⟨_, rfl⟩
  have CM := Lib.hid (fun y hm hs => Url.may_any a0 v0 F0 b hb m y hm hs)
  have CZ := Lib.hid (fun y => web_any N z (by rw [list_tb hN]; exact hz) y)
  have KP := Lib.hid (show b = true → z ≠ 0 → bothU a0 { a0 with port := a1 } = P ∧ bothU a0 { a0 with h := a2 } = G ∧ bothU a0 { a0 with usr := otherT, path := [[120], [121]] } = true from fun h k => by
    have h1 := hb.trans h
    have h2 : webI a0.sch ≠ 0 := fun e => k (hz.symm.trans e)
    exact ⟨(both_prt h1 h2 a1).trans hP, (both_hst h1 h2 a2).trans hG, both_usr h1 h2⟩)
  have KS := Lib.hid (show ∀ s : T, a0.sch ≠ s → bothU a0 { a0 with sch := s } = false from fun s hs => both_sch s hs)
  have HEh := Lib.hid hEh
  have HEe := Lib.hid hE
  have HNN := Lib.hid hN
  have HPp := Lib.hid hP
  have HSZ := Lib.hid hsz
  have HF0 := Lib.hid F0
  have L2 := Lib.hid l2
  have HEQ := Lib.hid (show ∀ v, (Op.equalIn 10000 24 (.agg a2.cells) (.agg a0.h.cells)).run Tryz.prog v = .ok G v from fun v => Host.eq24 a2 a0.h l2 l0 G hG v)
  clear hf0 F0 hsc hb hz hN hE hEh hP hG hsz
  have hu := HU2.out
  go_wp2_with ((with_reducible refine wp_load27 (o := ⟨some 29, .load 27 (.tmp 3), _, _, _, _⟩) ?_ (.tmp 3) ?_ w.heap.size ?_ a0 v0 l0 hu ?_); (· rfl); (· rfl); (· rfl); simp only [Act.put, List.setIfInBounds_toArray, List.set_cons_zero, List.set_cons_succ])
  refine (CM.out _ HM2.out HS2.out).mono ?_
  rintro e X3 ⟨rfl, hB⟩
  have HB3 := Lib.hid (below_trans HB2.out hB)
  have HU3 := Lib.hid (HU2.out.later hB)
  have HH3 := Lib.hid (HH2.out.later hB)
  have HM3 := Lib.hid (HM2.out.later hB)
  have HS3 := Lib.hid (HS2.out.later hB)
  clear HB2 HU2 HH2 HM2 HS2
  clear hB hu CM c1 hE1 hD1
  cases b
  · go_wp2
    go_ret
    exact ⟨rfl, HX.out.trans (HB3.out.mono HX.out.size)⟩
  have c0 := HU3.out.cell 0
  rw [(cU_at a0 v0 l0).1, HNN.out] at c0
  go_wp2_with fail
  refine (CZ.out _).mono ?_
  rintro e X ⟨rfl, rfl⟩
  clear CZ c0
  by_cases h0 : z = 0
  · subst h0
    go_wp2
    go_ret
    exact ⟨rfl, HX.out.trans (HB3.out.mono HX.out.size)⟩
  have q0 : (z == 0) = false := beq_eq_false_iff_ne.2 h0
  obtain ⟨k1, k2, k3⟩ := KP.out (by first | rfl | trivial) h0
  have K1 := Lib.hid k1
  have K2 := Lib.hid k2
  have K3 := Lib.hid k3
  clear KP k1 k2 k3
  have hone := strs_one HS3.out
  have HBz := Lib.hid (Below.refl X3.heap.size X3)
  obtain ⟨bz, hbz⟩ : ∃ n, X3.heap.size = n := ⟨_, rfl⟩
  have HBZ := Lib.hid hbz
  clear hbz
  have hu := HU3.out.later HBz.out
  have hnew := new_url X3
  have hC := below_url X3 a0 v0
  have NHA := Lib.hid (show bz ≤ X3.heap.size from Nat.le_trans (Nat.le_of_eq HBZ.out.symm) HBz.out.size)
  have Hy := Lib.hid (below_trans HBz.out hC)
  clear HBz
  have HBz := Hy
  clear Hy
  have HA := Lib.hid (hnew.row a0 v0)
  clear hC
  go_upto_region 6 with (first | ((with_reducible refine wp_load27 (o := ⟨some 40, .load 27 (.tmp 3), _, _, _, _⟩) ?_ (.tmp 3) ?_ w.heap.size ?_ a0 v0 l0 hu ?_); (· rfl); (· rfl); (· rfl); simp only [Act.put, List.setIfInBounds_toArray, List.set_cons_zero, List.set_cons_succ]) | ((with_reducible refine wp_store27 (o := ⟨none, .store 27 (.tmp 9) (.tmp 40), _, _, _, _⟩) ?_ (.tmp 9) (.tmp 40) ?_ X3.heap.size ?_ a0 v0 ?_ l0 hone none1 (.slice none 0 0) rfl hnew ?_); (· rfl); (· rfl); (· rfl); (· rfl); simp only [Act.put, List.setIfInBounds_toArray, List.set_cons_zero, List.set_cons_succ]))
  clear hnew
  generalize (X3.alloc (.cells #[.string ⟨#[]⟩, .string ⟨#[]⟩, .string ⟨#[]⟩, .int .i64 0, .string ⟨#[]⟩, .int .i64 0, .int .i64 0, .int .i64 0, .int .i64 0, .int .i64 0, .int .i64 0, .int .i64 0, .int .i64 0, .int .i64 0, .int .i64 0, .slice none 0 0, .string ⟨#[]⟩, .string ⟨#[]⟩, .string ⟨#[]⟩, .bool false, .bool false] 27)).setRow X3.heap.size (cU a0 v0) = C1 at HBz HA  ⊢
  generalize X3.heap.size = g1 at NHA HA  ⊢
  clear hu
  have dd := HA.out.cell 14
  rw [(cU_at a0 v0 l0).2.2.2.2.1] at dd
  have ff := HA.out.free 14
  go_upto_region 7 with fail
  clear dd ff
  have THA := Lib.hid (show UrlAt (C1.setCell ⟨g1, 14, none⟩ (.int .i64 a1)) g1 { a0 with port := a1 } v0 from HA.out.prt l0 a1)
  have TBz := Lib.hid (below_set HBz.out (Nat.le_trans (Nat.le_of_eq HBZ.out) NHA.out) 14 (.int .i64 a1))
  clear HA HBz
  generalize C1.setCell ⟨g1, 14, none⟩ (.int .i64 a1) = C2 at THA TBz ⊢
  have HA := THA
  clear THA
  have HBz := TBz
  clear TBz
  have hu := HU3.out.later HBz.out
  have hnew := new_url C2
  have hC := below_url C2 a0 v0
  have NHD := Lib.hid (show bz ≤ C2.heap.size from Nat.le_trans (Nat.le_of_eq HBZ.out.symm) HBz.out.size)
  have NHDHA := Lib.hid (show g1 < C2.heap.size from HA.out.lt)
  have Hy := Lib.hid (below_trans HBz.out hC)
  clear HBz
  have HBz := Hy
  clear Hy
  have Hy := Lib.hid (HA.out.later hC)
  clear HA
  have HA := Hy
  clear Hy
  have HD := Lib.hid (hnew.row a0 v0)
  clear hC
  go_upto_region 8 with (first | ((with_reducible refine wp_load27 (o := ⟨some 43, .load 27 (.tmp 3), _, _, _, _⟩) ?_ (.tmp 3) ?_ w.heap.size ?_ a0 v0 l0 hu ?_); (· rfl); (· rfl); (· rfl); simp only [Act.put, List.setIfInBounds_toArray, List.set_cons_zero, List.set_cons_succ]) | ((with_reducible refine wp_store27 (o := ⟨none, .store 27 (.tmp 10) (.tmp 43), _, _, _, _⟩) ?_ (.tmp 10) (.tmp 43) ?_ C2.heap.size ?_ a0 v0 ?_ l0 hone none1 (.slice none 0 0) rfl hnew ?_); (· rfl); (· rfl); (· rfl); (· rfl); simp only [Act.put, List.setIfInBounds_toArray, List.set_cons_zero, List.set_cons_succ]))
  clear hnew
  generalize (C2.alloc (.cells #[.string ⟨#[]⟩, .string ⟨#[]⟩, .string ⟨#[]⟩, .int .i64 0, .string ⟨#[]⟩, .int .i64 0, .int .i64 0, .int .i64 0, .int .i64 0, .int .i64 0, .int .i64 0, .int .i64 0, .int .i64 0, .int .i64 0, .int .i64 0, .slice none 0 0, .string ⟨#[]⟩, .string ⟨#[]⟩, .string ⟨#[]⟩, .bool false, .bool false] 27)).setRow C2.heap.size (cU a0 v0) = C3 at HBz HD HA ⊢
  generalize C2.heap.size = g2 at NHD HD NHDHA ⊢
  clear hu
  have hh := HH3.out.later HBz.out
  have hb2 := HD.out
  go_upto_region 9 with (first | ((with_reducible refine Host.wp_load24 (o := ⟨some 44, .load 24 (.tmp 5), _, _, _, _⟩) ?_ (.tmp 5) ?_ (w.heap.size + 1) ?_ a2 L2.out hh ?_); (· rfl); (· rfl); (· rfl); simp only [Act.put, List.setIfInBounds_toArray, List.set_cons_zero, List.set_cons_succ]) | ((with_reducible refine wp_store24o (o := ⟨none, .store 24 (.tmp 45) (.tmp 44), _, _, _, _⟩) ?_ (.tmp 45) (.tmp 44) ?_ g2 ?_ a2 ?_ L2.out a0 v0 l0 hb2 ?_); (· rfl); (· rfl); (· rfl); (· rfl); simp only [Act.put, List.setIfInBounds_toArray, List.set_cons_zero, List.set_cons_succ]))
  have THD := Lib.hid (show UrlAt (C3.setCells g2 3 a2.cells.toList) g2 { a0 with h := a2 } v0 from set_hst HD.out l0 a2 L2.out)
  have THA := Lib.hid (show UrlAt (C3.setCells g2 3 a2.cells.toList) g1 _ _ from u_fill HA.out (by have := NHDHA.out; omega) 3 a2.cells.toList)
  have TBz := Lib.hid (below_fill (Nat.le_trans (Nat.le_of_eq HBZ.out) NHD.out) a2.cells.toList 3 _ HBz.out)
  clear HD HA HBz
  generalize C3.setCells g2 3 a2.cells.toList = C4 at THD THA TBz ⊢
  have HD := THD
  clear THD
  have HA := THA
  clear THA
  have HBz := TBz
  clear TBz
  clear hh hb2
  have hu := HU3.out.later HBz.out
  have hnew := new_url C4
  have hC := below_url C4 a0 v0
  have NHC := Lib.hid (show bz ≤ C4.heap.size from Nat.le_trans (Nat.le_of_eq HBZ.out.symm) HBz.out.size)
  have NHCHA := Lib.hid (show g1 < C4.heap.size from HA.out.lt)
  have NHCHD := Lib.hid (show g2 < C4.heap.size from HD.out.lt)
  have Hy := Lib.hid (below_trans HBz.out hC)
  clear HBz
  have HBz := Hy
  clear Hy
  have Hy := Lib.hid (HA.out.later hC)
  clear HA
  have HA := Hy
  clear Hy
  have Hy := Lib.hid (HD.out.later hC)
  clear HD
  have HD := Hy
  clear Hy
  have HC := Lib.hid (hnew.row a0 v0)
  clear hC
  go_upto_region 10 with (first | ((with_reducible refine wp_load27 (o := ⟨some 46, .load 27 (.tmp 3), _, _, _, _⟩) ?_ (.tmp 3) ?_ w.heap.size ?_ a0 v0 l0 hu ?_); (· rfl); (· rfl); (· rfl); simp only [Act.put, List.setIfInBounds_toArray, List.set_cons_zero, List.set_cons_succ]) | ((with_reducible refine wp_store27 (o := ⟨none, .store 27 (.tmp 11) (.tmp 46), _, _, _, _⟩) ?_ (.tmp 11) (.tmp 46) ?_ C4.heap.size ?_ a0 v0 ?_ l0 hone none1 (.slice none 0 0) rfl hnew ?_); (· rfl); (· rfl); (· rfl); (· rfl); simp only [Act.put, List.setIfInBounds_toArray, List.set_cons_zero, List.set_cons_succ]))
  clear hnew
  generalize (C4.alloc (.cells #[.string ⟨#[]⟩, .string ⟨#[]⟩, .string ⟨#[]⟩, .int .i64 0, .string ⟨#[]⟩, .int .i64 0, .int .i64 0, .int .i64 0, .int .i64 0, .int .i64 0, .int .i64 0, .int .i64 0, .int .i64 0, .int .i64 0, .int .i64 0, .slice none 0 0, .string ⟨#[]⟩, .string ⟨#[]⟩, .string ⟨#[]⟩, .bool false, .bool false] 27)).setRow C4.heap.size (cU a0 v0) = C5 at HBz HC HA HD ⊢
  generalize C4.heap.size = g3 at NHC HC NHCHA NHCHD ⊢
  clear hu
  have dd := HC.out.cell 1
  rw [(cU_at a0 v0 l0).2.1] at dd
  have ff := HC.out.free 1
  go_upto_region 11 with fail
  clear dd ff
  have THC := Lib.hid (show UrlAt (C5.setCell ⟨g3, 1, none⟩ (.string ⟨#[111, 116, 104, 101, 114]⟩)) g3 { a0 with usr := otherT } v0 from set_usr HC.out l0 otherT)
  have THA := Lib.hid (show UrlAt (C5.setCell ⟨g3, 1, none⟩ (.string ⟨#[111, 116, 104, 101, 114]⟩)) g1 _ _ from u_set HA.out (by have := NHCHA.out; omega) (j := 1) (.string ⟨#[111, 116, 104, 101, 114]⟩))
  have THD := Lib.hid (show UrlAt (C5.setCell ⟨g3, 1, none⟩ (.string ⟨#[111, 116, 104, 101, 114]⟩)) g2 _ _ from u_set HD.out (by have := NHCHD.out; omega) (j := 1) (.string ⟨#[111, 116, 104, 101, 114]⟩))
  have TBz := Lib.hid (below_set HBz.out (Nat.le_trans (Nat.le_of_eq HBZ.out) NHC.out) 1 (.string ⟨#[111, 116, 104, 101, 114]⟩))
  clear HC HA HD HBz
  generalize C5.setCell ⟨g3, 1, none⟩ (.string ⟨#[111, 116, 104, 101, 114]⟩) = C6 at THC THA THD TBz ⊢
  have HC := THC
  clear THC
  have HA := THA
  clear THA
  have HD := THD
  clear THD
  have HBz := TBz
  clear TBz
  have hC := (Below.refl C6.heap.size C6).alloc (Nat.le_refl _) (.cells #[.string ⟨#[120]⟩, .string ⟨#[121]⟩] 9)
  have NHN := Lib.hid (show bz ≤ C6.heap.size from Nat.le_trans (Nat.le_of_eq HBZ.out.symm) HBz.out.size)
  have NHNHA := Lib.hid (show g1 < C6.heap.size from HA.out.lt)
  have NHNHD := Lib.hid (show g2 < C6.heap.size from HD.out.lt)
  have NHNHC := Lib.hid (show g3 < C6.heap.size from HC.out.lt)
  have Hy := Lib.hid (below_trans HBz.out hC)
  clear HBz
  have HBz := Hy
  clear Hy
  have Hy := Lib.hid (HA.out.later hC)
  clear HA
  have HA := Hy
  clear Hy
  have Hy := Lib.hid (HD.out.later hC)
  clear HD
  have HD := Hy
  clear Hy
  have Hy := Lib.hid (HC.out.later hC)
  clear HC
  have HC := Hy
  clear Hy
  have HN := Lib.hid (show TAt (C6.alloc (.cells #[.string ⟨#[120]⟩, .string ⟨#[121]⟩] 9)) C6.heap.size [[120], [121]] from TAt.new C6 [[120], [121]])
  clear hC
  have dd := HC.out.cell 15
  rw [(cU_at { a0 with usr := otherT } v0 (by exact l0)).2.2.2.2.2.1] at dd
  have ff := HC.out.free 15
  go_upto_region 12 with fail
  clear dd ff
  generalize C6.heap.size = gs at NHN HN NHNHA NHNHD NHNHC ⊢
  generalize C6.alloc (.cells #[.string ⟨#[120]⟩, .string ⟨#[121]⟩] 9) = C7 at HBz HN HA HD HC ⊢
  have THC := Lib.hid (show UrlAt (C7.setCell ⟨g3, 15, none⟩ (.slice (some ⟨gs, 0, none⟩) 2 2)) g3 { a0 with usr := otherT, path := [[120], [121]] } (.slice (some ⟨gs, 0, none⟩) 2 2) from HC.out.pth (by exact l0) [[120], [121]] (.slice (some ⟨gs, 0, none⟩) 2 2))
  have THA := Lib.hid (show UrlAt (C7.setCell ⟨g3, 15, none⟩ (.slice (some ⟨gs, 0, none⟩) 2 2)) g1 _ _ from u_set HA.out (by have := NHCHA.out; omega) (j := 15) (.slice (some ⟨gs, 0, none⟩) 2 2))
  have THD := Lib.hid (show UrlAt (C7.setCell ⟨g3, 15, none⟩ (.slice (some ⟨gs, 0, none⟩) 2 2)) g2 _ _ from u_set HD.out (by have := NHCHD.out; omega) (j := 15) (.slice (some ⟨gs, 0, none⟩) 2 2))
  have THN := Lib.hid (show TAt (C7.setCell ⟨g3, 15, none⟩ (.slice (some ⟨gs, 0, none⟩) 2 2)) gs _ from t_set HN.out (by have := NHNHC.out; omega) (j := 15) (.slice (some ⟨gs, 0, none⟩) 2 2))
  have TBz := Lib.hid (below_set HBz.out (Nat.le_trans (Nat.le_of_eq HBZ.out) NHC.out) 15 (.slice (some ⟨gs, 0, none⟩) 2 2))
  clear HC HA HD HN HBz
  generalize C7.setCell ⟨g3, 15, none⟩ (.slice (some ⟨gs, 0, none⟩) 2 2) = C8 at THC THA THD THN TBz ⊢
  have HC := THC
  clear THC
  have HA := THA
  clear THA
  have HD := THD
  clear THD
  have HN := THN
  clear THN
  have HBz := TBz
  clear TBz
  have hu := HU3.out.later HBz.out
  have hnew := new_url C8
  have hC := below_url C8 a0 v0
  have NHE := Lib.hid (show bz ≤ C8.heap.size from Nat.le_trans (Nat.le_of_eq HBZ.out.symm) HBz.out.size)
  have NHEHA := Lib.hid (show g1 < C8.heap.size from HA.out.lt)
  have NHEHD := Lib.hid (show g2 < C8.heap.size from HD.out.lt)
  have NHEHC := Lib.hid (show g3 < C8.heap.size from HC.out.lt)
  have NHEHN := Lib.hid (show gs < C8.heap.size from HN.out.lt)
  have Hy := Lib.hid (below_trans HBz.out hC)
  clear HBz
  have HBz := Hy
  clear Hy
  have Hy := Lib.hid (HA.out.later hC)
  clear HA
  have HA := Hy
  clear Hy
  have Hy := Lib.hid (HD.out.later hC)
  clear HD
  have HD := Hy
  clear Hy
  have Hy := Lib.hid (HC.out.later hC)
  clear HC
  have HC := Hy
  clear Hy
  have Hy := Lib.hid (HN.out.later hC)
  clear HN
  have HN := Hy
  clear Hy
  have HE := Lib.hid (hnew.row a0 v0)
  clear hC
  go_upto_region 13 with (first | ((with_reducible refine wp_load27 (o := ⟨some 50, .load 27 (.tmp 3), _, _, _, _⟩) ?_ (.tmp 3) ?_ w.heap.size ?_ a0 v0 l0 hu ?_); (· rfl); (· rfl); (· rfl); simp only [Act.put, List.setIfInBounds_toArray, List.set_cons_zero, List.set_cons_succ]) | ((with_reducible refine wp_store27 (o := ⟨none, .store 27 (.tmp 12) (.tmp 50), _, _, _, _⟩) ?_ (.tmp 12) (.tmp 50) ?_ C8.heap.size ?_ a0 v0 ?_ l0 hone none1 (.slice none 0 0) rfl hnew ?_); (· rfl); (· rfl); (· rfl); (· rfl); simp only [Act.put, List.setIfInBounds_toArray, List.set_cons_zero, List.set_cons_succ]))
  clear hnew
  generalize (C8.alloc (.cells #[.string ⟨#[]⟩, .string ⟨#[]⟩, .string ⟨#[]⟩, .int .i64 0, .string ⟨#[]⟩, .int .i64 0, .int .i64 0, .int .i64 0, .int .i64 0, .int .i64 0, .int .i64 0, .int .i64 0, .int .i64 0, .int .i64 0, .int .i64 0, .slice none 0 0, .string ⟨#[]⟩, .string ⟨#[]⟩, .string ⟨#[]⟩, .bool false, .bool false] 27)).setRow C8.heap.size (cU a0 v0) = C9 at HBz HE HA HD HC HN ⊢
  generalize C8.heap.size = g4 at NHE HE NHEHA NHEHD NHEHC NHEHN ⊢
  clear hu
  have dd := HE.out.cell 0
  rw [(cU_at a0 v0 l0).1] at dd
  have ff := HE.out.free 0
  go_upto_region 14 with fail
  clear dd ff
  have THE := Lib.hid (show UrlAt (C9.setCell ⟨g4, 0, none⟩ (.string ⟨#[104, 116, 116, 112]⟩)) g4 { a0 with sch := http } v0 from set_sch HE.out l0 http)
  have THA := Lib.hid (show UrlAt (C9.setCell ⟨g4, 0, none⟩ (.string ⟨#[104, 116, 116, 112]⟩)) g1 _ _ from u_set HA.out (by have := NHEHA.out; omega) (j := 0) (.string ⟨#[104, 116, 116, 112]⟩))
  have THD := Lib.hid (show UrlAt (C9.setCell ⟨g4, 0, none⟩ (.string ⟨#[104, 116, 116, 112]⟩)) g2 _ _ from u_set HD.out (by have := NHEHD.out; omega) (j := 0) (.string ⟨#[104, 116, 116, 112]⟩))
  have THC := Lib.hid (show UrlAt (C9.setCell ⟨g4, 0, none⟩ (.string ⟨#[104, 116, 116, 112]⟩)) g3 _ _ from u_set HC.out (by have := NHEHC.out; omega) (j := 0) (.string ⟨#[104, 116, 116, 112]⟩))
  have THN := Lib.hid (show TAt (C9.setCell ⟨g4, 0, none⟩ (.string ⟨#[104, 116, 116, 112]⟩)) gs _ from t_set HN.out (by have := NHEHN.out; omega) (j := 0) (.string ⟨#[104, 116, 116, 112]⟩))
  have TBz := Lib.hid (below_set HBz.out (Nat.le_trans (Nat.le_of_eq HBZ.out) NHE.out) 0 (.string ⟨#[104, 116, 116, 112]⟩))
  clear HE HA HD HC HN HBz
  generalize C9.setCell ⟨g4, 0, none⟩ (.string ⟨#[104, 116, 116, 112]⟩) = C10 at THE THA THD THC THN TBz ⊢
  have HE := THE
  clear THE
  have HA := THA
  clear THA
  have HD := THD
  clear THD
  have HC := THC
  clear THC
  have HN := THN
  clear THN
  have HBz := TBz
  clear TBz
  have c0 := (HU3.out.later HBz.out).cell 0
  rw [(cU_at a0 v0 l0).1, HNN.out] at c0
  have hE := HEe.out
  have HSd : ∃ s : T, a0.sch ≠ s ∧ s = (if E = true then https else http) := ⟨_, fun e => by
    have h := HEh.out
    rw [e] at h
    cases E
    · exact absurd h (by decide)
    · exact absurd h (by decide), rfl⟩
  obtain ⟨sd, hsd, hsv⟩ := HSd
  have KD := Lib.hid (KS.out sd hsd)
  have HSv := Lib.hid hsv
  clear hsd hsv KS
  cases E
  · have HEd := Lib.hid (show UrlAt C10 g4 { a0 with sch := sd } v0 from by rw [HSv.out]; exact HE.out)
    have HU := Lib.hid (HU3.out.later HBz.out)
    have HH := Lib.hid (HH3.out.later HBz.out)
    have HM := Lib.hid (HM3.out.later HBz.out)
    have HS := Lib.hid (HS3.out.later HBz.out)
    have HB := Lib.hid (below_trans HB3.out HBz.out)
    have HT := Lib.hid (show Path.Strs C10 (.slice (some ⟨gs, 0, none⟩) 2 2) [[120], [121]] from HN.out.strs 2 rfl (by unfold maxLen; omega))
    have F0 := HF0.out
    have hln : sd.length ≤ 1000000 := by rw [HSv.out]; split <;> decide
    have FA : Fit { a0 with port := a1 } := ⟨F0.h8, F0.hs, F0.pn, F0.pt, F0.sch, F0.usr, F0.pas, F0.opq, F0.qry, F0.frg⟩
    have FD : Fit { a0 with h := a2 } := ⟨L2.out, HSZ.out, F0.pn, F0.pt, F0.sch, F0.usr, F0.pas, F0.opq, F0.qry, F0.frg⟩
    have FC : Fit { a0 with usr := otherT, path := [[120], [121]] } := ⟨F0.h8, F0.hs, (show ([[120], [121]] : List T).length ≤ 10000 by decide), (show ∀ t ∈ ([[120], [121]] : List T), t.length ≤ 1000000 by decide), F0.sch, (show otherT.length ≤ 1000000 by decide), F0.pas, F0.opq, F0.qry, F0.frg⟩
    have FE : Fit { a0 with sch := sd } := ⟨F0.h8, F0.hs, F0.pn, F0.pt, hln, F0.usr, F0.pas, F0.opq, F0.qry, F0.frg⟩
    have C1 := Lib.hid (fun y hm hs ht => both_any a0 { a0 with port := a1 } v0 v0 F0 FA P K1.out m y hm hs ht)
    have C2 := Lib.hid (fun y hm hs ht => both_any a0 { a0 with h := a2 } v0 v0 F0 FD G K2.out m y hm hs ht)
    have C3 := Lib.hid (fun y hm hs ht => both_any a0 { a0 with usr := otherT, path := [[120], [121]] } v0 (.slice (some ⟨gs, 0, none⟩) 2 2) F0 FC true K3.out m y hm hs ht)
    have C4 := Lib.hid (fun y hm hs ht => both_any a0 { a0 with sch := sd } v0 v0 F0 FE false KD.out m y hm hs ht)
    clear F0 FA FD FC FE hln HU3 HH3 HM3 HS3 HB3 HBz HE HN
    go_wp2_with fail
    have hc : Below C10.heap.size C10 C10.drew := (Below.refl _ _).drew
    refine wp_region_held_drew (S := fun v => UrlAt v w.heap.size a0 v0 ∧ Host.HostAt v (w.heap.size + 1) a2 ∧ UrlAt v g1 { a0 with port := a1 } v0 ∧ UrlAt v g2 { a0 with h := a2 } v0 ∧ UrlAt v g3 { a0 with usr := otherT, path := [[120], [121]] } (.slice (some ⟨gs, 0, none⟩) 2 2) ∧ UrlAt v g4 { a0 with sch := sd } v0) (by kernel_rfl) ⟨HU.out.later hc, HH.out.later hc, HA.out.later hc, HD.out.later hc, HC.out.later hc, HEd.out.later hc⟩ (fun hS => ?_)
    refine wpAnyH_take (i := 0) (oi := ⟨some 56, .load 27 (.tmp 3), _, _, _, _⟩) (v := .agg (cU a0 v0)) rfl (by kernel_rfl) (by kernel_rfl) (by kernel_rfl) (fun _ _ _ h => h) (Or.inl ⟨by rfl, ?_⟩) (by assumption) ?_
    · (exact fun v hv => run_load_of 27 (.tmp 3) ⟨w.heap.size, 0, none⟩ rfl (.agg (cU a0 v0)) (hv.1.load l0))
    simp only [Act.put, List.setIfInBounds_toArray, List.set_cons_zero, List.set_cons_succ]
    refine wpAnyH_take (i := 1) (oi := ⟨some 57, .load 27 (.tmp 9), _, _, _, _⟩) (v := .agg (cU { a0 with port := a1 } v0)) rfl (by kernel_rfl) (by kernel_rfl) (by kernel_rfl) (fun _ _ _ h => h) (Or.inl ⟨by rfl, ?_⟩) (by assumption) ?_
    · (exact fun v hv => run_load_of 27 (.tmp 9) ⟨g1, 0, none⟩ rfl (.agg (cU { a0 with port := a1 } v0)) (hv.2.2.1.load l0))
    simp only [Act.put, List.setIfInBounds_toArray, List.set_cons_zero, List.set_cons_succ]
    refine wpAnyH_take (i := 3) (oi := ⟨some 59, .move (.tmp 1), _, _, _, _⟩) (v := .int .i64 a1) rfl (by kernel_rfl) (by kernel_rfl) (by kernel_rfl) (fun _ _ _ h => h) (Or.inl ⟨by rfl, ?_⟩) (by assumption) ?_
    · (intro v hv; go_simp)
    simp only [Act.put, List.setIfInBounds_toArray, List.set_cons_zero, List.set_cons_succ]
    refine wpAnyH_take (i := 4) (oi := ⟨some 60, .fieldAddr 27 (.tmp 3) 4, _, _, _, _⟩) (v := .pointer (some ⟨w.heap.size, 14, none⟩)) rfl (by kernel_rfl) (by kernel_rfl) (by kernel_rfl) (fun _ _ _ h => h) (Or.inl ⟨by rfl, ?_⟩) (by assumption) ?_
    · (intro v hv; go_simp)
    simp only [Act.put, List.setIfInBounds_toArray, List.set_cons_zero, List.set_cons_succ]
    refine wpAnyH_take (i := 5) (oi := ⟨some 61, .load 3 (.tmp 60), _, _, _, _⟩) (v := .int .i64 a0.port) rfl (by kernel_rfl) (by kernel_rfl) (by kernel_rfl) (fun _ _ _ h => h) (Or.inl ⟨by rfl, ?_⟩) (by assumption) ?_
    · (exact fun v hv => run_load_of 3 (.tmp 60) ⟨w.heap.size, 14, none⟩ rfl (.int .i64 a0.port) (load3 ((hv.1.cell 14).trans (cU_at a0 v0 l0).2.2.2.2.1)))
    simp only [Act.put, List.setIfInBounds_toArray, List.set_cons_zero, List.set_cons_succ]
    refine wpAnyH_take (i := 6) (oi := ⟨some 62, .binOp .eql 3 (.tmp 59) (.tmp 61) 3, _, _, _, _⟩) (v := .bool P) rfl (by kernel_rfl) (by kernel_rfl) (by kernel_rfl) (fun _ _ _ h => h) (Or.inl ⟨by rfl, ?_⟩) (by assumption) ?_
    · (intro v hv; have h := HPp.out; go_simp)
    simp only [Act.put, List.setIfInBounds_toArray, List.set_cons_zero, List.set_cons_succ]
    refine wpAnyH_ready (rs := [2]) (by kernel_rfl) (by simp) ?_
    refine AllReadyH.cons (o := ⟨some 58, .call ⟨.value (.func 22), #[.tmp 56, .tmp 57], _⟩, _, _, _, _⟩) rfl (fun K hK => ?_) AllReadyH.nil
    go_simp
    go_at_call 22
    refine (C1.out _ (HM.out.later hc) (HS.out.later hc) (HS.out.later hc)).mono ?_
    rintro e x ⟨rfl, hB⟩
    have hc := below_trans hc hB
    refine hK.out _ _ ⟨HU.out.later hc, HH.out.later hc, HA.out.later hc, HD.out.later hc, HC.out.later hc, HEd.out.later hc⟩ (fun hS => ?_)
    clear hB
    refine wpAnyH_take (i := 7) (oi := ⟨some 63, .binOp .eql 4 (.tmp 58) (.tmp 62) 4, _, _, _, _⟩) (v := .bool true) rfl (by kernel_rfl) (by kernel_rfl) (by kernel_rfl) (fun _ _ _ h => h) (Or.inl ⟨by rfl, ?_⟩) (by assumption) ?_
    · (intro v hv; go_simp)
    simp only [Act.put, List.setIfInBounds_toArray, List.set_cons_zero, List.set_cons_succ]
    refine wpAnyH_take (i := 8) (oi := ⟨some 64, .move (.tmp 63), _, _, _, _⟩) (v := .bool true) rfl (by kernel_rfl) (by kernel_rfl) (by kernel_rfl) (fun _ _ _ h => h) (Or.inl ⟨by rfl, ?_⟩) (by assumption) ?_
    · (intro v hv; go_simp)
    simp only [Act.put, List.setIfInBounds_toArray, List.set_cons_zero, List.set_cons_succ]
    refine wpAnyH_take (i := 9) (oi := ⟨some 65, .load 27 (.tmp 3), _, _, _, _⟩) (v := .agg (cU a0 v0)) rfl (by kernel_rfl) (by kernel_rfl) (by kernel_rfl) (fun _ _ _ h => h) (Or.inl ⟨by rfl, ?_⟩) (by assumption) ?_
    · (exact fun v hv => run_load_of 27 (.tmp 3) ⟨w.heap.size, 0, none⟩ rfl (.agg (cU a0 v0)) (hv.1.load l0))
    simp only [Act.put, List.setIfInBounds_toArray, List.set_cons_zero, List.set_cons_succ]
    refine wpAnyH_take (i := 10) (oi := ⟨some 66, .load 27 (.tmp 10), _, _, _, _⟩) (v := .agg (cU { a0 with h := a2 } v0)) rfl (by kernel_rfl) (by kernel_rfl) (by kernel_rfl) (fun _ _ _ h => h) (Or.inl ⟨by rfl, ?_⟩) (by assumption) ?_
    · (exact fun v hv => run_load_of 27 (.tmp 10) ⟨g2, 0, none⟩ rfl (.agg (cU { a0 with h := a2 } v0)) (hv.2.2.2.1.load L2.out))
    simp only [Act.put, List.setIfInBounds_toArray, List.set_cons_zero, List.set_cons_succ]
    refine wpAnyH_take (i := 12) (oi := ⟨some 68, .load 24 (.tmp 5), _, _, _, _⟩) (v := .agg a2.cells) rfl (by kernel_rfl) (by kernel_rfl) (by kernel_rfl) (fun _ _ _ h => h) (Or.inl ⟨by rfl, ?_⟩) (by assumption) ?_
    · (exact fun v hv => run_load_of 24 (.tmp 5) ⟨(w.heap.size + 1), 0, none⟩ rfl (.agg a2.cells) (hv.2.1.load L2.out))
    simp only [Act.put, List.setIfInBounds_toArray, List.set_cons_zero, List.set_cons_succ]
    refine wpAnyH_take (i := 13) (oi := ⟨some 69, .fieldAddr 27 (.tmp 3) 3, _, _, _, _⟩) (v := .pointer (some ⟨w.heap.size, 3, none⟩)) rfl (by kernel_rfl) (by kernel_rfl) (by kernel_rfl) (fun _ _ _ h => h) (Or.inl ⟨by rfl, ?_⟩) (by assumption) ?_
    · (intro v hv; go_simp)
    simp only [Act.put, List.setIfInBounds_toArray, List.set_cons_zero, List.set_cons_succ]
    refine wpAnyH_take (i := 14) (oi := ⟨some 70, .load 24 (.tmp 69), _, _, _, _⟩) (v := .agg a0.h.cells) rfl (by kernel_rfl) (by kernel_rfl) (by kernel_rfl) (fun _ _ _ h => h) (Or.inl ⟨by rfl, ?_⟩) (by assumption) ?_
    · (exact fun v hv => run_load_of 24 (.tmp 69) ⟨w.heap.size, 3, none⟩ rfl (.agg a0.h.cells) (hv.1.host l0))
    simp only [Act.put, List.setIfInBounds_toArray, List.set_cons_zero, List.set_cons_succ]
    refine wpAnyH_take (i := 15) (oi := ⟨some 71, .binOp .eql 24 (.tmp 68) (.tmp 70) 24, _, _, _, _⟩) (v := .bool G) rfl (by kernel_rfl) (by kernel_rfl) (by kernel_rfl) (fun _ _ _ h => h) (Or.inl ⟨by rfl, ?_⟩) (by assumption) ?_
    · (intro v hv; have h := HEQ.out; go_simp)
    simp only [Act.put, List.setIfInBounds_toArray, List.set_cons_zero, List.set_cons_succ]
    refine wpAnyH_ready (rs := [11]) (by kernel_rfl) (by simp) ?_
    refine AllReadyH.cons (o := ⟨some 67, .call ⟨.value (.func 22), #[.tmp 65, .tmp 66], _⟩, _, _, _, _⟩) rfl (fun K hK => ?_) AllReadyH.nil
    go_simp
    go_at_call 22
    refine (C2.out _ (HM.out.later hc) (HS.out.later hc) (HS.out.later hc)).mono ?_
    rintro e x ⟨rfl, hB⟩
    have hc := below_trans hc hB
    refine hK.out _ _ ⟨HU.out.later hc, HH.out.later hc, HA.out.later hc, HD.out.later hc, HC.out.later hc, HEd.out.later hc⟩ (fun hS => ?_)
    clear hB
    refine wpAnyH_take (i := 16) (oi := ⟨some 72, .binOp .eql 4 (.tmp 67) (.tmp 71) 4, _, _, _, _⟩) (v := .bool true) rfl (by kernel_rfl) (by kernel_rfl) (by kernel_rfl) (fun _ _ _ h => h) (Or.inl ⟨by rfl, ?_⟩) (by assumption) ?_
    · (intro v hv; go_simp)
    simp only [Act.put, List.setIfInBounds_toArray, List.set_cons_zero, List.set_cons_succ]
    refine wpAnyH_take (i := 17) (oi := ⟨some 73, .pick (.tmp 64) (.tmp 72) (.const (.bool false)), _, _, _, _⟩) (v := .bool true) rfl (by kernel_rfl) (by kernel_rfl) (by kernel_rfl) (fun _ _ _ h => h) (Or.inl ⟨by rfl, ?_⟩) (by assumption) ?_
    · (intro v hv; go_simp)
    simp only [Act.put, List.setIfInBounds_toArray, List.set_cons_zero, List.set_cons_succ]
    refine wpAnyH_take (i := 18) (oi := ⟨some 74, .move (.tmp 73), _, _, _, _⟩) (v := .bool true) rfl (by kernel_rfl) (by kernel_rfl) (by kernel_rfl) (fun _ _ _ h => h) (Or.inl ⟨by rfl, ?_⟩) (by assumption) ?_
    · (intro v hv; go_simp)
    simp only [Act.put, List.setIfInBounds_toArray, List.set_cons_zero, List.set_cons_succ]
    refine wpAnyH_take (i := 19) (oi := ⟨some 75, .load 27 (.tmp 3), _, _, _, _⟩) (v := .agg (cU a0 v0)) rfl (by kernel_rfl) (by kernel_rfl) (by kernel_rfl) (fun _ _ _ h => h) (Or.inl ⟨by rfl, ?_⟩) (by assumption) ?_
    · (exact fun v hv => run_load_of 27 (.tmp 3) ⟨w.heap.size, 0, none⟩ rfl (.agg (cU a0 v0)) (hv.1.load l0))
    simp only [Act.put, List.setIfInBounds_toArray, List.set_cons_zero, List.set_cons_succ]
    refine wpAnyH_take (i := 20) (oi := ⟨some 76, .load 27 (.tmp 11), _, _, _, _⟩) (v := .agg (cU { a0 with usr := otherT, path := [[120], [121]] } (.slice (some ⟨gs, 0, none⟩) 2 2))) rfl (by kernel_rfl) (by kernel_rfl) (by kernel_rfl) (fun _ _ _ h => h) (Or.inl ⟨by rfl, ?_⟩) (by assumption) ?_
    · (exact fun v hv => run_load_of 27 (.tmp 11) ⟨g3, 0, none⟩ rfl (.agg (cU { a0 with usr := otherT, path := [[120], [121]] } (.slice (some ⟨gs, 0, none⟩) 2 2))) (hv.2.2.2.2.1.load (by exact l0)))
    simp only [Act.put, List.setIfInBounds_toArray, List.set_cons_zero, List.set_cons_succ]
    refine wpAnyH_ready (rs := [21]) (by kernel_rfl) (by simp) ?_
    refine AllReadyH.cons (o := ⟨some 77, .call ⟨.value (.func 22), #[.tmp 75, .tmp 76], _⟩, _, _, _, _⟩) rfl (fun K hK => ?_) AllReadyH.nil
    go_simp
    go_at_call 22
    refine (C3.out _ (HM.out.later hc) (HS.out.later hc) (HT.out.later hc)).mono ?_
    rintro e x ⟨rfl, hB⟩
    have hc := below_trans hc hB
    refine hK.out _ _ ⟨HU.out.later hc, HH.out.later hc, HA.out.later hc, HD.out.later hc, HC.out.later hc, HEd.out.later hc⟩ (fun hS => ?_)
    clear hB
    refine wpAnyH_take (i := 22) (oi := ⟨some 78, .pick (.tmp 74) (.tmp 77) (.const (.bool false)), _, _, _, _⟩) (v := .bool true) rfl (by kernel_rfl) (by kernel_rfl) (by kernel_rfl) (fun _ _ _ h => h) (Or.inl ⟨by rfl, ?_⟩) (by assumption) ?_
    · (intro v hv; go_simp)
    simp only [Act.put, List.setIfInBounds_toArray, List.set_cons_zero, List.set_cons_succ]
    refine wpAnyH_take (i := 23) (oi := ⟨some 79, .move (.tmp 78), _, _, _, _⟩) (v := .bool true) rfl (by kernel_rfl) (by kernel_rfl) (by kernel_rfl) (fun _ _ _ h => h) (Or.inl ⟨by rfl, ?_⟩) (by assumption) ?_
    · (intro v hv; go_simp)
    simp only [Act.put, List.setIfInBounds_toArray, List.set_cons_zero, List.set_cons_succ]
    refine wpAnyH_take (i := 24) (oi := ⟨some 80, .load 27 (.tmp 3), _, _, _, _⟩) (v := .agg (cU a0 v0)) rfl (by kernel_rfl) (by kernel_rfl) (by kernel_rfl) (fun _ _ _ h => h) (Or.inl ⟨by rfl, ?_⟩) (by assumption) ?_
    · (exact fun v hv => run_load_of 27 (.tmp 3) ⟨w.heap.size, 0, none⟩ rfl (.agg (cU a0 v0)) (hv.1.load l0))
    simp only [Act.put, List.setIfInBounds_toArray, List.set_cons_zero, List.set_cons_succ]
    refine wpAnyH_take (i := 25) (oi := ⟨some 81, .load 27 (.tmp 12), _, _, _, _⟩) (v := .agg (cU { a0 with sch := sd } v0)) rfl (by kernel_rfl) (by kernel_rfl) (by kernel_rfl) (fun _ _ _ h => h) (Or.inl ⟨by rfl, ?_⟩) (by assumption) ?_
    · (exact fun v hv => run_load_of 27 (.tmp 12) ⟨g4, 0, none⟩ rfl (.agg (cU { a0 with sch := sd } v0)) (hv.2.2.2.2.2.load (by exact l0)))
    simp only [Act.put, List.setIfInBounds_toArray, List.set_cons_zero, List.set_cons_succ]
    refine wpAnyH_ready (rs := [26]) (by kernel_rfl) (by simp) ?_
    refine AllReadyH.cons (o := ⟨some 82, .call ⟨.value (.func 22), #[.tmp 80, .tmp 81], _⟩, _, _, _, _⟩) rfl (fun K hK => ?_) AllReadyH.nil
    go_simp
    go_at_call 22
    refine (C4.out _ (HM.out.later hc) (HS.out.later hc) (HS.out.later hc)).mono ?_
    rintro e x ⟨rfl, hB⟩
    have hc := below_trans hc hB
    refine hK.out _ _ ⟨HU.out.later hc, HH.out.later hc, HA.out.later hc, HD.out.later hc, HC.out.later hc, HEd.out.later hc⟩ (fun hS => ?_)
    clear hB
    refine wpAnyH_take (i := 27) (oi := ⟨some 83, .unOp .not 4 (.tmp 82), _, _, _, _⟩) (v := .bool true) rfl (by kernel_rfl) (by kernel_rfl) (by kernel_rfl) (fun _ _ _ h => h) (Or.inl ⟨by rfl, ?_⟩) (by assumption) ?_
    · (intro v hv; go_simp)
    simp only [Act.put, List.setIfInBounds_toArray, List.set_cons_zero, List.set_cons_succ]
    refine wpAnyH_take (i := 28) (oi := ⟨some 84, .pick (.tmp 79) (.tmp 83) (.const (.bool false)), _, _, _, _⟩) (v := .bool true) rfl (by kernel_rfl) (by kernel_rfl) (by kernel_rfl) (fun _ _ _ h => h) (Or.inl ⟨by rfl, ?_⟩) (by assumption) ?_
    · (intro v hv; go_simp)
    simp only [Act.put, List.setIfInBounds_toArray, List.set_cons_zero, List.set_cons_succ]
    refine wpAnyH_take (i := 29) (oi := ⟨some 6, .assign (.tmp 84), _, _, _, _⟩) (v := .bool true) rfl (by kernel_rfl) (by kernel_rfl) (by kernel_rfl) (fun _ _ _ h => h) (Or.inl ⟨by rfl, ?_⟩) (by assumption) ?_
    · (intro v hv; go_simp)
    simp only [Act.put, List.setIfInBounds_toArray, List.set_cons_zero, List.set_cons_succ]
    refine wpAnyH_done (by kernel_rfl) ?_ _
    go_wp2
    go_ret
    exact ⟨rfl, HX.out.trans ((below_trans HB.out hc).mono HX.out.size)⟩
  · have dd := HE.out.cell 0
    rw [(cU_at { a0 with sch := http } v0 (by exact l0)).1] at dd
    have ff := HE.out.free 0
    go_upto_region 16 with fail
    clear dd ff
    have THE := Lib.hid (show UrlAt (C10.setCell ⟨g4, 0, none⟩ (.string ⟨#[104, 116, 116, 112, 115]⟩)) g4 { a0 with sch := https } v0 from set_sch HE.out (by exact l0) https)
    have THA := Lib.hid (show UrlAt (C10.setCell ⟨g4, 0, none⟩ (.string ⟨#[104, 116, 116, 112, 115]⟩)) g1 _ _ from u_set HA.out (by have := NHEHA.out; omega) (j := 0) (.string ⟨#[104, 116, 116, 112, 115]⟩))
    have THD := Lib.hid (show UrlAt (C10.setCell ⟨g4, 0, none⟩ (.string ⟨#[104, 116, 116, 112, 115]⟩)) g2 _ _ from u_set HD.out (by have := NHEHD.out; omega) (j := 0) (.string ⟨#[104, 116, 116, 112, 115]⟩))
    have THC := Lib.hid (show UrlAt (C10.setCell ⟨g4, 0, none⟩ (.string ⟨#[104, 116, 116, 112, 115]⟩)) g3 _ _ from u_set HC.out (by have := NHEHC.out; omega) (j := 0) (.string ⟨#[104, 116, 116, 112, 115]⟩))
    have THN := Lib.hid (show TAt (C10.setCell ⟨g4, 0, none⟩ (.string ⟨#[104, 116, 116, 112, 115]⟩)) gs _ from t_set HN.out (by have := NHEHN.out; omega) (j := 0) (.string ⟨#[104, 116, 116, 112, 115]⟩))
    have TBz := Lib.hid (below_set HBz.out (Nat.le_trans (Nat.le_of_eq HBZ.out) NHE.out) 0 (.string ⟨#[104, 116, 116, 112, 115]⟩))
    clear HE HA HD HC HN HBz
    generalize C10.setCell ⟨g4, 0, none⟩ (.string ⟨#[104, 116, 116, 112, 115]⟩) = C11 at THE THA THD THC THN TBz ⊢
    have HE := THE
    clear THE
    have HA := THA
    clear THA
    have HD := THD
    clear THD
    have HC := THC
    clear THC
    have HN := THN
    clear THN
    have HBz := TBz
    clear TBz
    clear c0 hE
    have HEd := Lib.hid (show UrlAt C11 g4 { a0 with sch := sd } v0 from by rw [HSv.out]; exact HE.out)
    have HU := Lib.hid (HU3.out.later HBz.out)
    have HH := Lib.hid (HH3.out.later HBz.out)
    have HM := Lib.hid (HM3.out.later HBz.out)
    have HS := Lib.hid (HS3.out.later HBz.out)
    have HB := Lib.hid (below_trans HB3.out HBz.out)
    have HT := Lib.hid (show Path.Strs C11 (.slice (some ⟨gs, 0, none⟩) 2 2) [[120], [121]] from HN.out.strs 2 rfl (by unfold maxLen; omega))
    have F0 := HF0.out
    have hln : sd.length ≤ 1000000 := by rw [HSv.out]; split <;> decide
    have FA : Fit { a0 with port := a1 } := ⟨F0.h8, F0.hs, F0.pn, F0.pt, F0.sch, F0.usr, F0.pas, F0.opq, F0.qry, F0.frg⟩
    have FD : Fit { a0 with h := a2 } := ⟨L2.out, HSZ.out, F0.pn, F0.pt, F0.sch, F0.usr, F0.pas, F0.opq, F0.qry, F0.frg⟩
    have FC : Fit { a0 with usr := otherT, path := [[120], [121]] } := ⟨F0.h8, F0.hs, (show ([[120], [121]] : List T).length ≤ 10000 by decide), (show ∀ t ∈ ([[120], [121]] : List T), t.length ≤ 1000000 by decide), F0.sch, (show otherT.length ≤ 1000000 by decide), F0.pas, F0.opq, F0.qry, F0.frg⟩
    have FE : Fit { a0 with sch := sd } := ⟨F0.h8, F0.hs, F0.pn, F0.pt, hln, F0.usr, F0.pas, F0.opq, F0.qry, F0.frg⟩
    have C1 := Lib.hid (fun y hm hs ht => both_any a0 { a0 with port := a1 } v0 v0 F0 FA P K1.out m y hm hs ht)
    have C2 := Lib.hid (fun y hm hs ht => both_any a0 { a0 with h := a2 } v0 v0 F0 FD G K2.out m y hm hs ht)
    have C3 := Lib.hid (fun y hm hs ht => both_any a0 { a0 with usr := otherT, path := [[120], [121]] } v0 (.slice (some ⟨gs, 0, none⟩) 2 2) F0 FC true K3.out m y hm hs ht)
    have C4 := Lib.hid (fun y hm hs ht => both_any a0 { a0 with sch := sd } v0 v0 F0 FE false KD.out m y hm hs ht)
    clear F0 FA FD FC FE hln HU3 HH3 HM3 HS3 HB3 HBz HE HN
    go_wp2_with fail
    have hc : Below C11.heap.size C11 C11.drew := (Below.refl _ _).drew
    refine wp_region_held_drew (S := fun v => UrlAt v w.heap.size a0 v0 ∧ Host.HostAt v (w.heap.size + 1) a2 ∧ UrlAt v g1 { a0 with port := a1 } v0 ∧ UrlAt v g2 { a0 with h := a2 } v0 ∧ UrlAt v g3 { a0 with usr := otherT, path := [[120], [121]] } (.slice (some ⟨gs, 0, none⟩) 2 2) ∧ UrlAt v g4 { a0 with sch := sd } v0) (by kernel_rfl) ⟨HU.out.later hc, HH.out.later hc, HA.out.later hc, HD.out.later hc, HC.out.later hc, HEd.out.later hc⟩ (fun hS => ?_)
    refine wpAnyH_take (i := 0) (oi := ⟨some 56, .load 27 (.tmp 3), _, _, _, _⟩) (v := .agg (cU a0 v0)) rfl (by kernel_rfl) (by kernel_rfl) (by kernel_rfl) (fun _ _ _ h => h) (Or.inl ⟨by rfl, ?_⟩) (by assumption) ?_
    · (exact fun v hv => run_load_of 27 (.tmp 3) ⟨w.heap.size, 0, none⟩ rfl (.agg (cU a0 v0)) (hv.1.load l0))
    simp only [Act.put, List.setIfInBounds_toArray, List.set_cons_zero, List.set_cons_succ]
    refine wpAnyH_take (i := 1) (oi := ⟨some 57, .load 27 (.tmp 9), _, _, _, _⟩) (v := .agg (cU { a0 with port := a1 } v0)) rfl (by kernel_rfl) (by kernel_rfl) (by kernel_rfl) (fun _ _ _ h => h) (Or.inl ⟨by rfl, ?_⟩) (by assumption) ?_
    · (exact fun v hv => run_load_of 27 (.tmp 9) ⟨g1, 0, none⟩ rfl (.agg (cU { a0 with port := a1 } v0)) (hv.2.2.1.load l0))
    simp only [Act.put, List.setIfInBounds_toArray, List.set_cons_zero, List.set_cons_succ]
    refine wpAnyH_take (i := 3) (oi := ⟨some 59, .move (.tmp 1), _, _, _, _⟩) (v := .int .i64 a1) rfl (by kernel_rfl) (by kernel_rfl) (by kernel_rfl) (fun _ _ _ h => h) (Or.inl ⟨by rfl, ?_⟩) (by assumption) ?_
    · (intro v hv; go_simp)
    simp only [Act.put, List.setIfInBounds_toArray, List.set_cons_zero, List.set_cons_succ]
    refine wpAnyH_take (i := 4) (oi := ⟨some 60, .fieldAddr 27 (.tmp 3) 4, _, _, _, _⟩) (v := .pointer (some ⟨w.heap.size, 14, none⟩)) rfl (by kernel_rfl) (by kernel_rfl) (by kernel_rfl) (fun _ _ _ h => h) (Or.inl ⟨by rfl, ?_⟩) (by assumption) ?_
    · (intro v hv; go_simp)
    simp only [Act.put, List.setIfInBounds_toArray, List.set_cons_zero, List.set_cons_succ]
    refine wpAnyH_take (i := 5) (oi := ⟨some 61, .load 3 (.tmp 60), _, _, _, _⟩) (v := .int .i64 a0.port) rfl (by kernel_rfl) (by kernel_rfl) (by kernel_rfl) (fun _ _ _ h => h) (Or.inl ⟨by rfl, ?_⟩) (by assumption) ?_
    · (exact fun v hv => run_load_of 3 (.tmp 60) ⟨w.heap.size, 14, none⟩ rfl (.int .i64 a0.port) (load3 ((hv.1.cell 14).trans (cU_at a0 v0 l0).2.2.2.2.1)))
    simp only [Act.put, List.setIfInBounds_toArray, List.set_cons_zero, List.set_cons_succ]
    refine wpAnyH_take (i := 6) (oi := ⟨some 62, .binOp .eql 3 (.tmp 59) (.tmp 61) 3, _, _, _, _⟩) (v := .bool P) rfl (by kernel_rfl) (by kernel_rfl) (by kernel_rfl) (fun _ _ _ h => h) (Or.inl ⟨by rfl, ?_⟩) (by assumption) ?_
    · (intro v hv; have h := HPp.out; go_simp)
    simp only [Act.put, List.setIfInBounds_toArray, List.set_cons_zero, List.set_cons_succ]
    refine wpAnyH_ready (rs := [2]) (by kernel_rfl) (by simp) ?_
    refine AllReadyH.cons (o := ⟨some 58, .call ⟨.value (.func 22), #[.tmp 56, .tmp 57], _⟩, _, _, _, _⟩) rfl (fun K hK => ?_) AllReadyH.nil
    go_simp
    go_at_call 22
    refine (C1.out _ (HM.out.later hc) (HS.out.later hc) (HS.out.later hc)).mono ?_
    rintro e x ⟨rfl, hB⟩
    have hc := below_trans hc hB
    refine hK.out _ _ ⟨HU.out.later hc, HH.out.later hc, HA.out.later hc, HD.out.later hc, HC.out.later hc, HEd.out.later hc⟩ (fun hS => ?_)
    clear hB
    refine wpAnyH_take (i := 7) (oi := ⟨some 63, .binOp .eql 4 (.tmp 58) (.tmp 62) 4, _, _, _, _⟩) (v := .bool true) rfl (by kernel_rfl) (by kernel_rfl) (by kernel_rfl) (fun _ _ _ h => h) (Or.inl ⟨by rfl, ?_⟩) (by assumption) ?_
    · (intro v hv; go_simp)
    simp only [Act.put, List.setIfInBounds_toArray, List.set_cons_zero, List.set_cons_succ]
    refine wpAnyH_take (i := 8) (oi := ⟨some 64, .move (.tmp 63), _, _, _, _⟩) (v := .bool true) rfl (by kernel_rfl) (by kernel_rfl) (by kernel_rfl) (fun _ _ _ h => h) (Or.inl ⟨by rfl, ?_⟩) (by assumption) ?_
    · (intro v hv; go_simp)
    simp only [Act.put, List.setIfInBounds_toArray, List.set_cons_zero, List.set_cons_succ]
    refine wpAnyH_take (i := 9) (oi := ⟨some 65, .load 27 (.tmp 3), _, _, _, _⟩) (v := .agg (cU a0 v0)) rfl (by kernel_rfl) (by kernel_rfl) (by kernel_rfl) (fun _ _ _ h => h) (Or.inl ⟨by rfl, ?_⟩) (by assumption) ?_
    · (exact fun v hv => run_load_of 27 (.tmp 3) ⟨w.heap.size, 0, none⟩ rfl (.agg (cU a0 v0)) (hv.1.load l0))
    simp only [Act.put, List.setIfInBounds_toArray, List.set_cons_zero, List.set_cons_succ]
    refine wpAnyH_take (i := 10) (oi := ⟨some 66, .load 27 (.tmp 10), _, _, _, _⟩) (v := .agg (cU { a0 with h := a2 } v0)) rfl (by kernel_rfl) (by kernel_rfl) (by kernel_rfl) (fun _ _ _ h => h) (Or.inl ⟨by rfl, ?_⟩) (by assumption) ?_
    · (exact fun v hv => run_load_of 27 (.tmp 10) ⟨g2, 0, none⟩ rfl (.agg (cU { a0 with h := a2 } v0)) (hv.2.2.2.1.load L2.out))
    simp only [Act.put, List.setIfInBounds_toArray, List.set_cons_zero, List.set_cons_succ]
    refine wpAnyH_take (i := 12) (oi := ⟨some 68, .load 24 (.tmp 5), _, _, _, _⟩) (v := .agg a2.cells) rfl (by kernel_rfl) (by kernel_rfl) (by kernel_rfl) (fun _ _ _ h => h) (Or.inl ⟨by rfl, ?_⟩) (by assumption) ?_
    · (exact fun v hv => run_load_of 24 (.tmp 5) ⟨(w.heap.size + 1), 0, none⟩ rfl (.agg a2.cells) (hv.2.1.load L2.out))
    simp only [Act.put, List.setIfInBounds_toArray, List.set_cons_zero, List.set_cons_succ]
    refine wpAnyH_take (i := 13) (oi := ⟨some 69, .fieldAddr 27 (.tmp 3) 3, _, _, _, _⟩) (v := .pointer (some ⟨w.heap.size, 3, none⟩)) rfl (by kernel_rfl) (by kernel_rfl) (by kernel_rfl) (fun _ _ _ h => h) (Or.inl ⟨by rfl, ?_⟩) (by assumption) ?_
    · (intro v hv; go_simp)
    simp only [Act.put, List.setIfInBounds_toArray, List.set_cons_zero, List.set_cons_succ]
    refine wpAnyH_take (i := 14) (oi := ⟨some 70, .load 24 (.tmp 69), _, _, _, _⟩) (v := .agg a0.h.cells) rfl (by kernel_rfl) (by kernel_rfl) (by kernel_rfl) (fun _ _ _ h => h) (Or.inl ⟨by rfl, ?_⟩) (by assumption) ?_
    · (exact fun v hv => run_load_of 24 (.tmp 69) ⟨w.heap.size, 3, none⟩ rfl (.agg a0.h.cells) (hv.1.host l0))
    simp only [Act.put, List.setIfInBounds_toArray, List.set_cons_zero, List.set_cons_succ]
    refine wpAnyH_take (i := 15) (oi := ⟨some 71, .binOp .eql 24 (.tmp 68) (.tmp 70) 24, _, _, _, _⟩) (v := .bool G) rfl (by kernel_rfl) (by kernel_rfl) (by kernel_rfl) (fun _ _ _ h => h) (Or.inl ⟨by rfl, ?_⟩) (by assumption) ?_
    · (intro v hv; have h := HEQ.out; go_simp)
    simp only [Act.put, List.setIfInBounds_toArray, List.set_cons_zero, List.set_cons_succ]
    refine wpAnyH_ready (rs := [11]) (by kernel_rfl) (by simp) ?_
    refine AllReadyH.cons (o := ⟨some 67, .call ⟨.value (.func 22), #[.tmp 65, .tmp 66], _⟩, _, _, _, _⟩) rfl (fun K hK => ?_) AllReadyH.nil
    go_simp
    go_at_call 22
    refine (C2.out _ (HM.out.later hc) (HS.out.later hc) (HS.out.later hc)).mono ?_
    rintro e x ⟨rfl, hB⟩
    have hc := below_trans hc hB
    refine hK.out _ _ ⟨HU.out.later hc, HH.out.later hc, HA.out.later hc, HD.out.later hc, HC.out.later hc, HEd.out.later hc⟩ (fun hS => ?_)
    clear hB
    refine wpAnyH_take (i := 16) (oi := ⟨some 72, .binOp .eql 4 (.tmp 67) (.tmp 71) 4, _, _, _, _⟩) (v := .bool true) rfl (by kernel_rfl) (by kernel_rfl) (by kernel_rfl) (fun _ _ _ h => h) (Or.inl ⟨by rfl, ?_⟩) (by assumption) ?_
    · (intro v hv; go_simp)
    simp only [Act.put, List.setIfInBounds_toArray, List.set_cons_zero, List.set_cons_succ]
    refine wpAnyH_take (i := 17) (oi := ⟨some 73, .pick (.tmp 64) (.tmp 72) (.const (.bool false)), _, _, _, _⟩) (v := .bool true) rfl (by kernel_rfl) (by kernel_rfl) (by kernel_rfl) (fun _ _ _ h => h) (Or.inl ⟨by rfl, ?_⟩) (by assumption) ?_
    · (intro v hv; go_simp)
    simp only [Act.put, List.setIfInBounds_toArray, List.set_cons_zero, List.set_cons_succ]
    refine wpAnyH_take (i := 18) (oi := ⟨some 74, .move (.tmp 73), _, _, _, _⟩) (v := .bool true) rfl (by kernel_rfl) (by kernel_rfl) (by kernel_rfl) (fun _ _ _ h => h) (Or.inl ⟨by rfl, ?_⟩) (by assumption) ?_
    · (intro v hv; go_simp)
    simp only [Act.put, List.setIfInBounds_toArray, List.set_cons_zero, List.set_cons_succ]
    refine wpAnyH_take (i := 19) (oi := ⟨some 75, .load 27 (.tmp 3), _, _, _, _⟩) (v := .agg (cU a0 v0)) rfl (by kernel_rfl) (by kernel_rfl) (by kernel_rfl) (fun _ _ _ h => h) (Or.inl ⟨by rfl, ?_⟩) (by assumption) ?_
    · (exact fun v hv => run_load_of 27 (.tmp 3) ⟨w.heap.size, 0, none⟩ rfl (.agg (cU a0 v0)) (hv.1.load l0))
    simp only [Act.put, List.setIfInBounds_toArray, List.set_cons_zero, List.set_cons_succ]
    refine wpAnyH_take (i := 20) (oi := ⟨some 76, .load 27 (.tmp 11), _, _, _, _⟩) (v := .agg (cU { a0 with usr := otherT, path := [[120], [121]] } (.slice (some ⟨gs, 0, none⟩) 2 2))) rfl (by kernel_rfl) (by kernel_rfl) (by kernel_rfl) (fun _ _ _ h => h) (Or.inl ⟨by rfl, ?_⟩) (by assumption) ?_
    · (exact fun v hv => run_load_of 27 (.tmp 11) ⟨g3, 0, none⟩ rfl (.agg (cU { a0 with usr := otherT, path := [[120], [121]] } (.slice (some ⟨gs, 0, none⟩) 2 2))) (hv.2.2.2.2.1.load (by exact l0)))
    simp only [Act.put, List.setIfInBounds_toArray, List.set_cons_zero, List.set_cons_succ]
    refine wpAnyH_ready (rs := [21]) (by kernel_rfl) (by simp) ?_
    refine AllReadyH.cons (o := ⟨some 77, .call ⟨.value (.func 22), #[.tmp 75, .tmp 76], _⟩, _, _, _, _⟩) rfl (fun K hK => ?_) AllReadyH.nil
    go_simp
    go_at_call 22
    refine (C3.out _ (HM.out.later hc) (HS.out.later hc) (HT.out.later hc)).mono ?_
    rintro e x ⟨rfl, hB⟩
    have hc := below_trans hc hB
    refine hK.out _ _ ⟨HU.out.later hc, HH.out.later hc, HA.out.later hc, HD.out.later hc, HC.out.later hc, HEd.out.later hc⟩ (fun hS => ?_)
    clear hB
    refine wpAnyH_take (i := 22) (oi := ⟨some 78, .pick (.tmp 74) (.tmp 77) (.const (.bool false)), _, _, _, _⟩) (v := .bool true) rfl (by kernel_rfl) (by kernel_rfl) (by kernel_rfl) (fun _ _ _ h => h) (Or.inl ⟨by rfl, ?_⟩) (by assumption) ?_
    · (intro v hv; go_simp)
    simp only [Act.put, List.setIfInBounds_toArray, List.set_cons_zero, List.set_cons_succ]
    refine wpAnyH_take (i := 23) (oi := ⟨some 79, .move (.tmp 78), _, _, _, _⟩) (v := .bool true) rfl (by kernel_rfl) (by kernel_rfl) (by kernel_rfl) (fun _ _ _ h => h) (Or.inl ⟨by rfl, ?_⟩) (by assumption) ?_
    · (intro v hv; go_simp)
    simp only [Act.put, List.setIfInBounds_toArray, List.set_cons_zero, List.set_cons_succ]
    refine wpAnyH_take (i := 24) (oi := ⟨some 80, .load 27 (.tmp 3), _, _, _, _⟩) (v := .agg (cU a0 v0)) rfl (by kernel_rfl) (by kernel_rfl) (by kernel_rfl) (fun _ _ _ h => h) (Or.inl ⟨by rfl, ?_⟩) (by assumption) ?_
    · (exact fun v hv => run_load_of 27 (.tmp 3) ⟨w.heap.size, 0, none⟩ rfl (.agg (cU a0 v0)) (hv.1.load l0))
    simp only [Act.put, List.setIfInBounds_toArray, List.set_cons_zero, List.set_cons_succ]
    refine wpAnyH_take (i := 25) (oi := ⟨some 81, .load 27 (.tmp 12), _, _, _, _⟩) (v := .agg (cU { a0 with sch := sd } v0)) rfl (by kernel_rfl) (by kernel_rfl) (by kernel_rfl) (fun _ _ _ h => h) (Or.inl ⟨by rfl, ?_⟩) (by assumption) ?_
    · (exact fun v hv => run_load_of 27 (.tmp 12) ⟨g4, 0, none⟩ rfl (.agg (cU { a0 with sch := sd } v0)) (hv.2.2.2.2.2.load (by exact l0)))
    simp only [Act.put, List.setIfInBounds_toArray, List.set_cons_zero, List.set_cons_succ]
    refine wpAnyH_ready (rs := [26]) (by kernel_rfl) (by simp) ?_
    refine AllReadyH.cons (o := ⟨some 82, .call ⟨.value (.func 22), #[.tmp 80, .tmp 81], _⟩, _, _, _, _⟩) rfl (fun K hK => ?_) AllReadyH.nil
    go_simp
    go_at_call 22
    refine (C4.out _ (HM.out.later hc) (HS.out.later hc) (HS.out.later hc)).mono ?_
    rintro e x ⟨rfl, hB⟩
    have hc := below_trans hc hB
    refine hK.out _ _ ⟨HU.out.later hc, HH.out.later hc, HA.out.later hc, HD.out.later hc, HC.out.later hc, HEd.out.later hc⟩ (fun hS => ?_)
    clear hB
    refine wpAnyH_take (i := 27) (oi := ⟨some 83, .unOp .not 4 (.tmp 82), _, _, _, _⟩) (v := .bool true) rfl (by kernel_rfl) (by kernel_rfl) (by kernel_rfl) (fun _ _ _ h => h) (Or.inl ⟨by rfl, ?_⟩) (by assumption) ?_
    · (intro v hv; go_simp)
    simp only [Act.put, List.setIfInBounds_toArray, List.set_cons_zero, List.set_cons_succ]
    refine wpAnyH_take (i := 28) (oi := ⟨some 84, .pick (.tmp 79) (.tmp 83) (.const (.bool false)), _, _, _, _⟩) (v := .bool true) rfl (by kernel_rfl) (by kernel_rfl) (by kernel_rfl) (fun _ _ _ h => h) (Or.inl ⟨by rfl, ?_⟩) (by assumption) ?_
    · (intro v hv; go_simp)
    simp only [Act.put, List.setIfInBounds_toArray, List.set_cons_zero, List.set_cons_succ]
    refine wpAnyH_take (i := 29) (oi := ⟨some 6, .assign (.tmp 84), _, _, _, _⟩) (v := .bool true) rfl (by kernel_rfl) (by kernel_rfl) (by kernel_rfl) (fun _ _ _ h => h) (Or.inl ⟨by rfl, ?_⟩) (by assumption) ?_
    · (intro v hv; go_simp)
    simp only [Act.put, List.setIfInBounds_toArray, List.set_cons_zero, List.set_cons_succ]
    refine wpAnyH_done (by kernel_rfl) ?_ _
    go_wp2
    go_ret
    exact ⟨rfl, HX.out.trans ((below_trans HB.out hc).mono HX.out.size)⟩

/-! ### The row's step -/
theorem reads (os : Os) {H : Type} (enc : TypeId × Value → H) : (DataW.whole enc Tryz.prog ((Card.laidWorld os).forCall (fun _ _ => 0) ⟨#[], #[.agg #[.string ByteArray.empty, .string ByteArray.empty, .string ByteArray.empty, .int .i64 0, .string ByteArray.empty, .int .i64 0, .int .i64 0, .int .i64 0, .int .i64 0, .int .i64 0, .int .i64 0, .int .i64 0, .int .i64 0, .int .i64 0, .int .i64 0, .slice none 0 0, .string ByteArray.empty, .string ByteArray.empty, .string ByteArray.empty, .bool false, .bool false], .int .i64 0, .agg #[.int .i64 0, .string ByteArray.empty, .int .i64 0, .int .i64 0, .int .i64 0, .int .i64 0, .int .i64 0, .int .i64 0, .int .i64 0, .int .i64 0, .int .i64 0]], []⟩).memory Tryz.f7.params.toList Rows.originPortSpec.vars false (#[.agg #[.string ByteArray.empty, .string ByteArray.empty, .string ByteArray.empty, .int .i64 0, .string ByteArray.empty, .int .i64 0, .int .i64 0, .int .i64 0, .int .i64 0, .int .i64 0, .int .i64 0, .int .i64 0, .int .i64 0, .int .i64 0, .int .i64 0, .slice none 0 0, .string ByteArray.empty, .string ByteArray.empty, .string ByteArray.empty, .bool false, .bool false], .int .i64 0, .agg #[.int .i64 0, .string ByteArray.empty, .int .i64 0, .int .i64 0, .int .i64 0, .int .i64 0, .int .i64 0, .int .i64 0, .int .i64 0, .int .i64 0, .int .i64 0]] : Array Value).toList 8).map (fun x => (x.1, x.2.1)) = some ([.agg [.lit (.string []), .lit (.string []), .lit (.string []), .agg [.lit (.int .i64 0), .lit (.string []), .lit (.int .i64 0), .agg [.lit (.int .i64 0), .lit (.int .i64 0), .lit (.int .i64 0), .lit (.int .i64 0), .lit (.int .i64 0), .lit (.int .i64 0), .lit (.int .i64 0), .lit (.int .i64 0)]], .lit (.int .i64 0), .nil, .lit (.string []), .lit (.string []), .lit (.string []), .lit (.bool false), .lit (.bool false)], .lit (.int .i64 0), .agg [.lit (.int .i64 0), .lit (.string []), .lit (.int .i64 0), .agg [.lit (.int .i64 0), .lit (.int .i64 0), .lit (.int .i64 0), .lit (.int .i64 0), .lit (.int .i64 0), .lit (.int .i64 0), .lit (.int .i64 0), .lit (.int .i64 0)]]], []) := by kernel_rfl
set_option maxRecDepth 100000 in
theorem lifted (os : Os) (started : os.Started) (H : Type) (enc : TypeId × Value → H) (F : Stop.Interp) :
    ReturnsInHanded {} Tryz.checked os 7 .any ((OpenSpec.ofChange Rows.originPortSpec).preRow enc Tryz.prog Tryz.f7 Rows.originPortRow.domain false Rows.originPortRow.laid) (((OpenSpec.ofChange Rows.originPortSpec).at F).post enc Tryz.prog Tryz.f7 false true false false) := by
  obtain ⟨⟨x1, x2, x3⟩, hx, hx1⟩ := Option.map_eq_some_iff.1 (reads os enc)
  simp only [Prod.mk.injEq] at hx1
  obtain ⟨rfl, rfl⟩ := hx1
  refine returnsInHanded_of_row (C := Tryz.checked) (s := OpenSpec.ofChange Rows.originPortSpec) own started (by kernel_rfl) Tryz.func7
    (witness_row_at (enc := enc) (C := Tryz.checked) false (Card.laidWorld os) #[.agg #[.string ByteArray.empty, .string ByteArray.empty, .string ByteArray.empty, .int .i64 0, .string ByteArray.empty, .int .i64 0, .int .i64 0, .int .i64 0, .int .i64 0, .int .i64 0, .int .i64 0, .int .i64 0, .int .i64 0, .int .i64 0, .int .i64 0, .slice none 0 0, .string ByteArray.empty, .string ByteArray.empty, .string ByteArray.empty, .bool false, .bool false], .int .i64 0, .agg #[.int .i64 0, .string ByteArray.empty, .int .i64 0, .int .i64 0, .int .i64 0, .int .i64 0, .int .i64 0, .int .i64 0, .int .i64 0, .int .i64 0, .int .i64 0]] rfl (by kernel_rfl) (by kernel_rfl) (by kernel_rfl)
      (OpenSpec.preRow_of_cond 8 hx (by kernel_rfl) (fun k hk => by cases hk) (by kernel_rfl) (Card.laid_met os _))) ?_
  intro W base args ds gs before hval0 hW _ _ _ hL hsh _
  obtain ⟨m, hmax⟩ := Card.maxLen_int hsh
  have hm : Six.At m W := ⟨hmax, Six.tab_of hL⟩
  have hval : ∀ (j : Nat) t v, Tryz.f7.params[j]? = some t → args[j]? = some v → Value.okWide Tryz.prog W .any base t v := hval0
  have hW' := hW
  obtain ⟨p, q, hA0, hV, rfl, hfz, hnd⟩ := hW
  have hA : DataW.TrodAll enc Tryz.prog W 0 (fun _ => true) true Tryz.f7.params.toList args.toList ds p := hA0
  rw [Tryz.params7] at hA hval
  obtain ⟨v0, vs0, d0, ds0, p0, q0, hargs0, rfl, rfl, t0, r0⟩ := trodAll_cons hA
  obtain ⟨v1, vs1, d1, ds1, p1, q1, hargs1, rfl, rfl, t1, r1⟩ := trodAll_cons r0
  obtain ⟨v2, vs2, d2, ds2, p2, q2, hargs2, rfl, rfl, t2, r2⟩ := trodAll_cons r1
  obtain ⟨rfl, rfl, rfl⟩ := trodAll_nil r2
  obtain rfl : args = #[v0, v1, v2] := by cases args; simp_all
  obtain ⟨rfl, rfl⟩ := trodVars_none hV
  have k0 := t0
  have lt0 : ∀ x ∈ p0, x.block < W.heap.size := by obtain ⟨m, hm⟩ := k0; exact DataW.trod_lt m _ _ _ hm
  obtain ⟨a0, pv0, l0, rfl, z0, w0⟩ := Url.open_url (hval 0 27 v0 rfl rfl) t0
  obtain ⟨a1, rfl, rfl, rfl, w1⟩ := open_int Tryz.underlying3 (hval 1 3 v1 rfl rfl) t1
  obtain ⟨a2, l2, rfl, rfl, rfl, w2⟩ := Six.open_host (hval 2 24 v2 rfl rfl) t2
  clear hA0 hval0
  simp only [List.append_nil] at hW'
  refine (walk a0 pv0 l0 a1 a2 l2 w1 w2 m W hm z0 w0).mono fun e W' ⟨he, bel⟩ => ?_
  subst he
  exact ⟨_, rfl, _, _, _, [], _, [], hW', trodAll_mk1 (shut_bool Tryz.underlying4 _), (trodAll_cons_mk (Below.trod laidOut (by kernel_rfl) (of_decide_eq_true (by kernel_rfl)) k0 bel lt0) (trodAll_cons_mk (shut_int Tryz.underlying3 w1) (trodAll_cons_mk (Six.shut_host l2 w2) trodAll_mk0))), rfl, bel.frame _, fun h => by cases h⟩

theorem said : Rows.originPortRow.holds Tryz.pinned (OpenSpec.ofChange Rows.originPortSpec) :=
  OpenClaim.holds_of_cond 7 Tryz.f7 rfl rfl rfl rfl rfl rfl rfl ⟨rfl, rfl, rfl, rfl, rfl⟩ rfl rfl rfl rfl rfl (by kernel_rfl) Tryz.func7 (by kernel_rfl)
    (of_decide_eq_true (by kernel_rfl)) (by unfold Func.isWrapper; first | (rw [if_pos (by decide +kernel)]; kernel_rfl) | (rw [if_neg (by decide +kernel)]; exact ⟨rfl, rfl⟩))
    (fun os started H enc _ F => by rw [OpenClaim.pre_eq_preRow]; exact lifted os started H enc F)

/-- No parameter wants a stand-in; the program's own looks are on. -/
theorem plain (f : FuncId) (fn : Func) (hf : Tryz.pinned.checked.prog.funcNamed Rows.originPortRow.func = some f) (hfn : Tryz.pinned.checked.prog.funcs[f]? = some fn) :
    true = Tryz.pinned.checked.prog.looks [] ∧ ∀ (j : Nat) t, fn.params[j]? = some t → Tryz.pinned.checked.prog.wantsStandIn t = false := by
  obtain rfl : f = 7 := Option.some.inj ((show Tryz.prog.funcNamed Rows.originPortRow.func = some 7 by kernel_rfl).symm.trans hf) |>.symm
  obtain rfl : fn = Tryz.f7 := (Option.some.inj (Tryz.func7.symm.trans hfn)).symm
  refine ⟨by kernel_rfl, fun j t ht => ?_⟩
  rw [Tryz.params7] at ht
  obtain rfl | rfl | rfl : t = 27 ∨ t = 3 ∨ t = 24 := by simpa using Array.mem_of_getElem? ht
  · exact (show Tryz.prog.wantsStandIn 27 = false by kernel_rfl)
  · exact (show Tryz.prog.wantsStandIn 3 = false by kernel_rfl)
  · exact (show Tryz.prog.wantsStandIn 24 = false by kernel_rfl)

/-- The statement: the card. -/
theorem proved : Rows.OriginPortCardSaid :=
  Claim7.holds_tied_plain_at .later [] _ _ _ _ said (fun _ h => by cases h) (by kernel_rfl) (fun _ h => by cases h) originPort_row_tie rfl ⟨rfl, rfl⟩ (by kernel_rfl) rfl plain (by kernel_rfl)
#print axioms proved
end Go.Proofs.YtkhgdcpkhbpemaaGreatDoor.originPort
