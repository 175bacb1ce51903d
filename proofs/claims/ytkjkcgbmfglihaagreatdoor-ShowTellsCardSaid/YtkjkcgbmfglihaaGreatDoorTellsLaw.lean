/-
  WHAT IS PROVED: the card of ShowTells: of any address whose parts are few and short: it is shown, has a door, and is without a fragment, or a user, as the document's own functions say.
  CONDITIONS: none but the card's own: the listed tables read as their texts lay them; the address is any.
-/
import Derived.Test.YtkjkcgbmfglihaaGreatDoorCards
import Derived.Test.YtkjkcgbmfglihaaGreatDoorTie
import Derived.WalkKit
import Derived.ProofKit
import Derived.OpenShut
import Derived.ShutString
import Derived.ChangeOld
import Derived.Below
import Derived.Deep.RegionHeld
import Derived.Laws.AppendOwnNone
import Derived.Test.YtkjkcgbmfglihaaGreatDoorSHRefE
import Derived.Test.YtkjkcgbmfglihaaGreatDoorLaid
import Derived.Test.YtkjkcgbmfglihaaGreatDoorHOpen
namespace Go.Proofs.YtkjkcgbmfglihaaGreatDoor.showTells
open Go.ChangeShapes Go.WideShapes Go.ChangeAt Go.RowKit
open Go.ChangeMaps (open_string shut_string)
open Go.Shelf
open Go.Proofs.YtkjkcgbmfglihaaGreatDoor.Url
open Go.Proofs.YtkjkcgbmfglihaaGreatDoor.Host (H)
open Go.Proofs.YtkjkcgbmfglihaaGreatDoor.Path (Strs)
set_option linter.unusedSimpArgs false
set_option linter.unusedVariables false

theorem own : ownKnob Tryz.prog.godebug = none := by kernel_rfl
theorem laidOut : laidOutB Tryz.prog = true := by kernel_rfl

open Go.Proofs.YtkjkcgbmfglihaaGreatDoor.Show
theorem port_wf {p : Int} (h : (Lit.int .i64 p).wf = true) : -9223372036854775808 ≤ p ∧ p ≤ 9223372036854775807 := by
  have hb := bounds_i64 h
  omega
theorem few_path {u : U} (h : fewU u = true) : u.path.length ≤ 60 ∧ ∀ t ∈ u.path, t.length ≤ 300 := by
  unfold fewU at h
  rw [Bool.and_eq_true] at h
  exact (Path.few_iff _).1 h.1
set_option maxRecDepth 100000
set_option maxHeartbeats 16000000 in
theorem walk (a0 : U) (v0 : Value) (l0 : a0.h.p.length = 8) (m : Int) (w : World) (hm : Six.At m w) (s0 : Path.Strs w v0 a0.path) (w0 : (Lit.int .i64 a0.port).wf = true) :
    Calls Tryz.prog 4 #[.agg (cU a0 v0)] w fun e w' => e = .returned (.bool true) ∧ Below w.heap.size w w' := by
  have hw := port_wf w0
  have HX := Lib.hid (show Below w.heap.size w (w.alloc (.cells (cU a0 v0) 27)) from (Below.refl w.heap.size w).alloc (Nat.le_refl _) _)
  have HU0 := Lib.hid (UrlAt.new w a0 v0)
  have HM0 := Lib.hid (hm.later HX.out)
  have HS0 := Lib.hid (s0.later HX.out)
  have HWf := Lib.hid hw
  clear hm s0 w0 hw
  go_enter Tryz.func4, Tryz.ntmps4
  go_wp2_with fail
  generalize w.alloc (.cells (cU a0 v0) 27) = X0 at HX HU0 HM0 HS0 ⊢
  refine (Show.awake_calls m X0 HM0.out).mono ?_
  rintro e X1 ⟨rfl, hB⟩
  have HB1 := Lib.hid (hB)
  have HU1 := Lib.hid (HU0.out.later hB)
  have HM1 := Lib.hid (HM0.out.later hB)
  have HS1 := Lib.hid (HS0.out.later hB)
  clear HU0 HM0 HS0
  clear hB
  obtain ⟨f0, hf0⟩ : ∃ b, fewU a0 = b := ⟨_, rfl⟩
  have hu := HU1.out
  go_wp2_with ((with_reducible refine wp_load27 (o := ⟨some 8, .load 27 (.tmp 1), _, _, _, _⟩) ?_ (.tmp 1) ?_ w.heap.size ?_ a0 v0 l0 hu ?_); (· rfl); (· rfl); (· rfl); simp only [Act.put, List.setIfInBounds_toArray, List.set_cons_zero, List.set_cons_succ])
  refine (few_any a0 v0 l0 f0 hf0 _ HS1.out).mono ?_
  rintro e X2 ⟨rfl, hB⟩
  have HB2 := Lib.hid (below_trans HB1.out hB)
  have HU2 := Lib.hid (HU1.out.later hB)
  have HM2 := Lib.hid (HM1.out.later hB)
  have HS2 := Lib.hid (HS1.out.later hB)
  clear HB1 HU1 HM1 HS1
  clear hB hu
  cases f0
  · go_wp2
    go_ret
    exact ⟨rfl, HX.out.trans (HB2.out.mono HX.out.size)⟩
  have HF := Lib.hid (few_fit a0 l0 hf0)
  have HFe := Lib.hid (few_path hf0)
  clear hf0
  obtain ⟨S, hS⟩ : ∃ b, tb (showU a0) = b := ⟨_, rfl⟩
  obtain ⟨D, hD⟩ : ∃ b, tb (doorU a0) = b := ⟨_, rfl⟩
  have hp3 : ∀ t ∈ a0.path, t.length ≤ 30000 := fun t ht => by have := HFe.out.2 t ht; omega
  have hp1 : ∀ t ∈ a0.path, t.length ≤ 1000 := fun t ht => by have := HFe.out.2 t ht; omega
  have CB := Lib.hid (fun x hx => Show.bare_any a0 v0 HF.out x hx)
  have CO := Lib.hid (fun x hx => Show.open_any a0 v0 HF.out x hx)
  have RB := Lib.hid (fun x hx => refBare_any a0 v0 l0 x hx)
  have RO := Lib.hid (fun x hx => refOpen_any a0 v0 l0 x hx)
  have EB := Lib.hid (fun p q x hp hq => refSame_any (bareU a0) (bareU a0) p q l0 l0 true ((same_iff _ _).2 rfl) x hp hq)
  have EO := Lib.hid (fun p q x hp hq => refSame_any (openU a0) (openU a0) p q l0 l0 true ((same_iff _ _).2 rfl) x hp hq)
  have CS := Lib.hid (fun x hx hy => Show.show_any a0 v0 HF.out S hS m x hx hy)
  have CD := Lib.hid (fun x hx hy => Show.door_any a0 v0 HF.out D hD m x hx hy)
  have RS := Lib.hid (fun x hx => refShow_any a0 v0 HF.out (by have := HFe.out.1; omega) hp1 HWf.out S hS x hx)
  have RD := Lib.hid (fun x hx => refDoor_any a0 v0 HF.out hp3 HWf.out D hD x hx)
  clear hS hD hp1 hp3
  go_wp2_with fail
  have hc : Below X2.heap.size X2 X2.drew := (Below.refl _ _).drew
  refine wp_region_held_drew (S := fun v => UrlAt v w.heap.size a0 v0) (by kernel_rfl) (HU2.out.later hc) (fun hS => ?_)
  refine wpAnyH_take (i := 0) (oi := ⟨some 17, .load 27 (.tmp 1), _, _, _, _⟩) (v := .agg (cU a0 v0)) rfl (by kernel_rfl) (by kernel_rfl) (by kernel_rfl) (fun _ _ _ h => h) (Or.inl ⟨by rfl, ?_⟩) (by assumption) ?_
  · (exact fun v hv => run_load_of 27 (.tmp 1) ⟨w.heap.size, 0, none⟩ rfl (.agg (cU a0 v0)) (hv.load l0))
  simp only [Act.put, List.setIfInBounds_toArray, List.set_cons_zero, List.set_cons_succ]
  refine wpAnyH_take (i := 2) (oi := ⟨some 19, .load 27 (.tmp 1), _, _, _, _⟩) (v := .agg (cU a0 v0)) rfl (by kernel_rfl) (by kernel_rfl) (by kernel_rfl) (fun _ _ _ h => h) (Or.inl ⟨by rfl, ?_⟩) (by assumption) ?_
  · (exact fun v hv => run_load_of 27 (.tmp 1) ⟨w.heap.size, 0, none⟩ rfl (.agg (cU a0 v0)) (hv.load l0))
  simp only [Act.put, List.setIfInBounds_toArray, List.set_cons_zero, List.set_cons_succ]
  refine wpAnyH_ready (rs := [1]) (by kernel_rfl) (by simp) ?_
  refine AllReadyH.cons (o := ⟨some 18, .call ⟨.value (.func 25), #[.tmp 17], _⟩, _, _, _, _⟩) rfl (fun K hK => ?_) AllReadyH.nil
  go_simp
  go_at_call 25
  refine (CB.out _ (HS2.out.later hc)).mono ?_
  rintro e x ⟨rv, rfl, hrv, hnw, hB⟩
  have hc := below_trans hc hB
  refine hK.out _ _ (HU2.out.later hc) (fun hS => ?_)
  clear hB hnw
  refine wpAnyH_ready (rs := [3]) (by kernel_rfl) (by simp) ?_
  refine AllReadyH.cons (o := ⟨some 20, .call ⟨.value (.func 26), #[.tmp 19], _⟩, _, _, _, _⟩) rfl (fun K hK => ?_) AllReadyH.nil
  go_simp
  go_at_call 26
  refine (RB.out _ (HS2.out.later hc)).mono ?_
  rintro e x ⟨rfl, hB⟩
  have hc := below_trans hc hB
  have hrv := hrv.later hB
  refine hK.out _ _ (HU2.out.later hc) (fun hS => ?_)
  clear hB
  refine wpAnyH_ready (rs := [4]) (by kernel_rfl) (by simp) ?_
  refine AllReadyH.cons (o := ⟨some 21, .call ⟨.value (.func 14), #[.tmp 18, .tmp 20], _⟩, _, _, _, _⟩) rfl (fun K hK => ?_) AllReadyH.nil
  go_simp
  go_at_call 14
  refine (EB.out rv v0 _ hrv (HS2.out.later hc)).mono ?_
  rintro e x ⟨rfl, hB⟩
  have hc := below_trans hc hB
  refine hK.out _ _ (HU2.out.later hc) (fun hS => ?_)
  clear hB hrv
  refine wpAnyH_take (i := 5) (oi := ⟨some 5, .assign (.tmp 21), _, _, _, _⟩) (v := .bool true) rfl (by kernel_rfl) (by kernel_rfl) (by kernel_rfl) (fun _ _ _ h => h) (Or.inl ⟨by rfl, ?_⟩) (by assumption) ?_
  · (intro v hv; go_simp)
  simp only [Act.put, List.setIfInBounds_toArray, List.set_cons_zero, List.set_cons_succ]
  refine wpAnyH_done (by kernel_rfl) ?_ _
  clear hS
  have ⟨X3, hX⟩ : ∃ y, y = x := ⟨_, rfl⟩
  subst hX
  have hB := hc
  have HB3 := Lib.hid (below_trans HB2.out hB)
  have HU3 := Lib.hid (HU2.out.later hB)
  have HM3 := Lib.hid (HM2.out.later hB)
  have HS3 := Lib.hid (HS2.out.later hB)
  clear HB2 HU2 HM2 HS2
  clear hB hc
  clear CB RB EB
  go_wp2_with fail
  have hc : Below X3.heap.size X3 X3.drew := (Below.refl _ _).drew
  refine wp_region_held_drew (S := fun v => UrlAt v w.heap.size a0 v0) (by kernel_rfl) (HU3.out.later hc) (fun hS => ?_)
  refine wpAnyH_take (i := 0) (oi := ⟨some 22, .load 27 (.tmp 1), _, _, _, _⟩) (v := .agg (cU a0 v0)) rfl (by kernel_rfl) (by kernel_rfl) (by kernel_rfl) (fun _ _ _ h => h) (Or.inl ⟨by rfl, ?_⟩) (by assumption) ?_
  · (exact fun v hv => run_load_of 27 (.tmp 1) ⟨w.heap.size, 0, none⟩ rfl (.agg (cU a0 v0)) (hv.load l0))
  simp only [Act.put, List.setIfInBounds_toArray, List.set_cons_zero, List.set_cons_succ]
  refine wpAnyH_take (i := 2) (oi := ⟨some 24, .load 27 (.tmp 1), _, _, _, _⟩) (v := .agg (cU a0 v0)) rfl (by kernel_rfl) (by kernel_rfl) (by kernel_rfl) (fun _ _ _ h => h) (Or.inl ⟨by rfl, ?_⟩) (by assumption) ?_
  · (exact fun v hv => run_load_of 27 (.tmp 1) ⟨w.heap.size, 0, none⟩ rfl (.agg (cU a0 v0)) (hv.load l0))
  simp only [Act.put, List.setIfInBounds_toArray, List.set_cons_zero, List.set_cons_succ]
  refine wpAnyH_ready (rs := [1]) (by kernel_rfl) (by simp) ?_
  refine AllReadyH.cons (o := ⟨some 23, .call ⟨.value (.func 27), #[.tmp 22], _⟩, _, _, _, _⟩) rfl (fun K hK => ?_) AllReadyH.nil
  go_simp
  go_at_call 27
  refine (CO.out _ (HS3.out.later hc)).mono ?_
  rintro e x ⟨rv, rfl, hrv, hnw, hB⟩
  have hc := below_trans hc hB
  refine hK.out _ _ (HU3.out.later hc) (fun hS => ?_)
  clear hB hnw
  refine wpAnyH_ready (rs := [3]) (by kernel_rfl) (by simp) ?_
  refine AllReadyH.cons (o := ⟨some 25, .call ⟨.value (.func 28), #[.tmp 24], _⟩, _, _, _, _⟩) rfl (fun K hK => ?_) AllReadyH.nil
  go_simp
  go_at_call 28
  refine (RO.out _ (HS3.out.later hc)).mono ?_
  rintro e x ⟨rfl, hB⟩
  have hc := below_trans hc hB
  have hrv := hrv.later hB
  refine hK.out _ _ (HU3.out.later hc) (fun hS => ?_)
  clear hB
  refine wpAnyH_ready (rs := [4]) (by kernel_rfl) (by simp) ?_
  refine AllReadyH.cons (o := ⟨some 26, .call ⟨.value (.func 14), #[.tmp 23, .tmp 25], _⟩, _, _, _, _⟩) rfl (fun K hK => ?_) AllReadyH.nil
  go_simp
  go_at_call 14
  refine (EO.out rv v0 _ hrv (HS3.out.later hc)).mono ?_
  rintro e x ⟨rfl, hB⟩
  have hc := below_trans hc hB
  refine hK.out _ _ (HU3.out.later hc) (fun hS => ?_)
  clear hB hrv
  refine wpAnyH_take (i := 5) (oi := ⟨some 6, .assign (.tmp 26), _, _, _, _⟩) (v := .bool true) rfl (by kernel_rfl) (by kernel_rfl) (by kernel_rfl) (fun _ _ _ h => h) (Or.inl ⟨by rfl, ?_⟩) (by assumption) ?_
  · (intro v hv; go_simp)
  simp only [Act.put, List.setIfInBounds_toArray, List.set_cons_zero, List.set_cons_succ]
  refine wpAnyH_done (by kernel_rfl) ?_ _
  clear hS
  have ⟨X4, hX⟩ : ∃ y, y = x := ⟨_, rfl⟩
  subst hX
  have hB := hc
  have HB4 := Lib.hid (below_trans HB3.out hB)
  have HU4 := Lib.hid (HU3.out.later hB)
  have HM4 := Lib.hid (HM3.out.later hB)
  have HS4 := Lib.hid (HS3.out.later hB)
  clear HB3 HU3 HM3 HS3
  clear hB hc
  clear CO RO EO
  go_wp2_with fail
  have LU := Lib.hid (q_url HU4.out l0)
  refine Ascii.wp_region_quiet_below (by kernel_rfl) (by kernel_rfl) ?_
  ((go_big_quiet_want; (with_reducible refine Host.quiet_load (o := ⟨some 27, .load 27 (.tmp 1), _, _, _, _⟩) 27 (.tmp 1) ?_ _ ?_ _ LU.out ?_); (· rfl); (· rfl)); go_big_quiet_on; simp only [Act.put, List.setIfInBounds_toArray, List.set_cons_succ, List.set_cons_zero])
  go_big_quiet_step ((intro hu; go_at_call 29; exact (CS.out _ (HM4.out.later hu) (HS4.out.later hu)).mono fun e u' h => ⟨h.1, hu.trans (h.2.mono hu.size)⟩))
  ((go_big_quiet_want; (with_reducible refine Host.quiet_load (o := ⟨some 29, .load 27 (.tmp 1), _, _, _, _⟩) 27 (.tmp 1) ?_ _ ?_ _ LU.out ?_); (· rfl); (· rfl)); go_big_quiet_on; simp only [Act.put, List.setIfInBounds_toArray, List.set_cons_succ, List.set_cons_zero])
  go_big_quiet_step ((intro hu; go_at_call 30; exact (RS.out _ (HS4.out.later hu)).mono fun e u' h => ⟨h.1, hu.trans (h.2.mono hu.size)⟩))
  iterate 2 (go_big_quiet_step ((intro _; rfl)))
  ((go_big_quiet_want; (with_reducible refine Host.quiet_load (o := ⟨some 33, .load 27 (.tmp 1), _, _, _, _⟩) 27 (.tmp 1) ?_ _ ?_ _ LU.out ?_); (· rfl); (· rfl)); go_big_quiet_on; simp only [Act.put, List.setIfInBounds_toArray, List.set_cons_succ, List.set_cons_zero])
  go_big_quiet_step ((intro hu; go_at_call 31; exact (CD.out _ (HM4.out.later hu) (HS4.out.later hu)).mono fun e u' h => ⟨h.1, hu.trans (h.2.mono hu.size)⟩))
  ((go_big_quiet_want; (with_reducible refine Host.quiet_load (o := ⟨some 35, .load 27 (.tmp 1), _, _, _, _⟩) 27 (.tmp 1) ?_ _ ?_ _ LU.out ?_); (· rfl); (· rfl)); go_big_quiet_on; simp only [Act.put, List.setIfInBounds_toArray, List.set_cons_succ, List.set_cons_zero])
  go_big_quiet_step ((intro hu; go_at_call 32; exact (RD.out _ (HS4.out.later hu)).mono fun e u' h => ⟨h.1, hu.trans (h.2.mono hu.size)⟩))
  repeat (go_big_quiet_step ((intro _; rfl)))
  refine wpQuiet_nil ?_
  intro z hz
  go_wp2
  go_ret
  exact ⟨rfl, HX.out.trans ((below_trans HB4.out hz).mono HX.out.size)⟩

/-! ### The row's step -/
theorem reads (os : Os) {H : Type} (enc : TypeId × Value → H) : (DataW.whole enc Tryz.prog ((Card.laidWorld os).forCall (fun _ _ => 0) ⟨#[], #[.agg #[.string ByteArray.empty, .string ByteArray.empty, .string ByteArray.empty, .int .i64 0, .string ByteArray.empty, .int .i64 0, .int .i64 0, .int .i64 0, .int .i64 0, .int .i64 0, .int .i64 0, .int .i64 0, .int .i64 0, .int .i64 0, .int .i64 0, .slice none 0 0, .string ByteArray.empty, .string ByteArray.empty, .string ByteArray.empty, .bool false, .bool false]], []⟩).memory Tryz.f4.params.toList Rows.showTellsSpec.vars false (#[.agg #[.string ByteArray.empty, .string ByteArray.empty, .string ByteArray.empty, .int .i64 0, .string ByteArray.empty, .int .i64 0, .int .i64 0, .int .i64 0, .int .i64 0, .int .i64 0, .int .i64 0, .int .i64 0, .int .i64 0, .int .i64 0, .int .i64 0, .slice none 0 0, .string ByteArray.empty, .string ByteArray.empty, .string ByteArray.empty, .bool false, .bool false]] : Array Value).toList 8).map (fun x => (x.1, x.2.1)) = some ([.agg [.lit (.string []), .lit (.string []), .lit (.string []), .agg [.lit (.int .i64 0), .lit (.string []), .lit (.int .i64 0), .agg [.lit (.int .i64 0), .lit (.int .i64 0), .lit (.int .i64 0), .lit (.int .i64 0), .lit (.int .i64 0), .lit (.int .i64 0), .lit (.int .i64 0), .lit (.int .i64 0)]], .lit (.int .i64 0), .nil, .lit (.string []), .lit (.string []), .lit (.string []), .lit (.bool false), .lit (.bool false)]], []) := by kernel_rfl
set_option maxRecDepth 100000 in
theorem lifted (os : Os) (started : os.Started) (H : Type) (enc : TypeId × Value → H) (F : Stop.Interp) :
    ReturnsInHanded {} Tryz.checked os 4 .any ((OpenSpec.ofChange Rows.showTellsSpec).preRow enc Tryz.prog Tryz.f4 Rows.showTellsRow.domain false Rows.showTellsRow.laid) (((OpenSpec.ofChange Rows.showTellsSpec).at F).post enc Tryz.prog Tryz.f4 false true false false) := by
  obtain ⟨⟨x1, x2, x3⟩, hx, hx1⟩ := Option.map_eq_some_iff.1 (reads os enc)
  simp only [Prod.mk.injEq] at hx1
  obtain ⟨rfl, rfl⟩ := hx1
  refine returnsInHanded_of_row (C := Tryz.checked) (s := OpenSpec.ofChange Rows.showTellsSpec) own started (by kernel_rfl) Tryz.func4
    (witness_row_at (enc := enc) (C := Tryz.checked) false (Card.laidWorld os) #[.agg #[.string ByteArray.empty, .string ByteArray.empty, .string ByteArray.empty, .int .i64 0, .string ByteArray.empty, .int .i64 0, .int .i64 0, .int .i64 0, .int .i64 0, .int .i64 0, .int .i64 0, .int .i64 0, .int .i64 0, .int .i64 0, .int .i64 0, .slice none 0 0, .string ByteArray.empty, .string ByteArray.empty, .string ByteArray.empty, .bool false, .bool false]] rfl (by kernel_rfl) (by kernel_rfl) (by kernel_rfl)
      (OpenSpec.preRow_of_cond 8 hx (by kernel_rfl) (fun k hk => by cases hk) (by kernel_rfl) (Card.laid_met os _))) ?_
  intro W base args ds gs before hval0 hW _ _ _ hL hsh _
  obtain ⟨m, hmax⟩ := Card.maxLen_int hsh
  have hm : Six.At m W := ⟨hmax, Six.tab_of hL⟩
  have hval : ∀ (j : Nat) t v, Tryz.f4.params[j]? = some t → args[j]? = some v → Value.okWide Tryz.prog W .any base t v := hval0
  have hW' := hW
  obtain ⟨p, q, hA0, hV, rfl, hfz, hnd⟩ := hW
  have hA : DataW.TrodAll enc Tryz.prog W 0 (fun _ => true) true Tryz.f4.params.toList args.toList ds p := hA0
  rw [Tryz.params4] at hA hval
  obtain ⟨v0, vs0, d0, ds0, p0, q0, hargs0, rfl, rfl, t0, r0⟩ := trodAll_cons hA
  obtain ⟨rfl, rfl, rfl⟩ := trodAll_nil r0
  obtain rfl : args = #[v0] := by cases args; simp_all
  obtain ⟨rfl, rfl⟩ := trodVars_none hV
  have k0 := t0
  have lt0 : ∀ x ∈ p0, x.block < W.heap.size := by obtain ⟨m, hm⟩ := k0; exact DataW.trod_lt m _ _ _ hm
  obtain ⟨a0, pv0, l0, rfl, z0, w0⟩ := Url.open_url (hval 0 27 v0 rfl rfl) t0
  clear hA0 hval0
  simp only [List.append_nil] at hW'
  refine (walk a0 pv0 l0  m W hm z0 w0).mono fun e W' ⟨he, bel⟩ => ?_
  subst he
  exact ⟨_, rfl, _, _, _, [], _, [], hW', trodAll_mk1 (shut_bool Tryz.underlying4 _), (trodAll_cons_mk (Below.trod laidOut (by kernel_rfl) (of_decide_eq_true (by kernel_rfl)) k0 bel lt0) trodAll_mk0), rfl, bel.frame _, fun h => by cases h⟩

theorem said : Rows.showTellsRow.holds Tryz.pinned (OpenSpec.ofChange Rows.showTellsSpec) :=
  OpenClaim.holds_of_cond 4 Tryz.f4 rfl rfl rfl rfl rfl rfl rfl ⟨rfl, rfl, rfl, rfl, rfl⟩ rfl rfl rfl rfl rfl (by kernel_rfl) Tryz.func4 (by kernel_rfl)
    (of_decide_eq_true (by kernel_rfl)) (by unfold Func.isWrapper; first | (rw [if_pos (by decide +kernel)]; kernel_rfl) | (rw [if_neg (by decide +kernel)]; exact ⟨rfl, rfl⟩))
    (fun os started H enc _ F => by rw [OpenClaim.pre_eq_preRow]; exact lifted os started H enc F)

/-- No parameter wants a stand-in; the program's own looks are on. -/
theorem plain (f : FuncId) (fn : Func) (hf : Tryz.pinned.checked.prog.funcNamed Rows.showTellsRow.func = some f) (hfn : Tryz.pinned.checked.prog.funcs[f]? = some fn) :
    true = Tryz.pinned.checked.prog.looks [] ∧ ∀ (j : Nat) t, fn.params[j]? = some t → Tryz.pinned.checked.prog.wantsStandIn t = false := by
  obtain rfl : f = 4 := Option.some.inj ((show Tryz.prog.funcNamed Rows.showTellsRow.func = some 4 by kernel_rfl).symm.trans hf) |>.symm
  obtain rfl : fn = Tryz.f4 := (Option.some.inj (Tryz.func4.symm.trans hfn)).symm
  refine ⟨by kernel_rfl, fun j t ht => ?_⟩
  rw [Tryz.params4] at ht
  obtain rfl : t = 27 := by simpa using Array.mem_of_getElem? ht
  · exact (show Tryz.prog.wantsStandIn 27 = false by kernel_rfl)

/-- The statement: the card. -/
theorem proved : Rows.ShowTellsCardSaid :=
  Claim7.holds_tied_plain_at .later [] _ _ _ _ said (fun _ h => by cases h) (by kernel_rfl) (fun _ h => by cases h) showTells_row_tie rfl ⟨rfl, rfl⟩ (by kernel_rfl) rfl plain (by kernel_rfl)
#print axioms proved
end Go.Proofs.YtkjkcgbmfglihaaGreatDoor.showTells
