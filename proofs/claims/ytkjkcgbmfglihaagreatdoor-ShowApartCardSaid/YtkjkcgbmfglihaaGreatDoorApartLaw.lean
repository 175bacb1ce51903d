/-
  WHAT IS PROVED: the card of ShowApart: of any two addresses whose parts are few and short, and that may be: they are shown as one text just if they are the same.
  CONDITIONS: none but the card's own: the listed tables read as their texts lay them; the addresses are any.
-/
import Derived.Test.YtkjkcgbmfglihaaGreatDoorCards
import Derived.Test.YtkjkcgbmfglihaaGreatDoorTie
import Derived.WalkKit
import Derived.ProofKit
import Derived.OpenShut
import Derived.ShutString
import Derived.ChangeOld
import Derived.Below
import Derived.Deep.RegionHeld
import Derived.Laws.AppendOwnNone
import Derived.Test.YtkjkcgbmfglihaaGreatDoorSHAwake
import Derived.Test.YtkjkcgbmfglihaaGreatDoorLaid
import Derived.Test.YtkjkcgbmfglihaaGreatDoorHOpen
namespace Go.Proofs.YtkjkcgbmfglihaaGreatDoor.showApart
open Go.ChangeShapes Go.WideShapes Go.ChangeAt Go.RowKit
open Go.ChangeMaps (open_string shut_string)
open Go.Shelf
open Go.Proofs.YtkjkcgbmfglihaaGreatDoor.Url
open Go.Proofs.YtkjkcgbmfglihaaGreatDoor.Host (H)
open Go.Proofs.YtkjkcgbmfglihaaGreatDoor.Path (Strs)
set_option linter.unusedSimpArgs false
set_option linter.unusedVariables false

theorem own : ownKnob Tryz.prog.godebug = none := by kernel_rfl
theorem laidOut : laidOutB Tryz.prog = true := by kernel_rfl

open Go.Proofs.YtkjkcgbmfglihaaGreatDoor.Show
set_option maxRecDepth 100000
set_option maxHeartbeats 16000000 in
theorem walk (a0 : U) (v0 : Value) (l0 : a0.h.p.length = 8) (a1 : U) (v1 : Value) (l1 : a1.h.p.length = 8) (m : Int) (w : World) (hm : Six.At m w)
    (s0 : Path.Strs w v0 a0.path) (w0 : (Lit.int .i64 a0.port).wf = true) (s1 : Path.Strs w v1 a1.path) (w1 : (Lit.int .i64 a1.port).wf = true) :
    Calls Tryz.prog 6 #[.agg (cU a0 v0), .agg (cU a1 v1)] w fun e w' => e = .returned (.bool true) ∧ Below w.heap.size w w' := by
  have e1 : (w.alloc (.cells (cU a0 v0) 27)).heap.size = w.heap.size + 1 := Array.size_push _
  have b1 := (Below.refl w.heap.size w).alloc (Nat.le_refl _) (.cells (cU a0 v0) 27)
  have HB0 := Lib.hid (b1.alloc (by omega) (.cells (cU a1 v1) 27))
  have HU := Lib.hid ((UrlAt.new w a0 v0).past (.cells (cU a1 v1) 27))
  have HV := Lib.hid (show UrlAt ((w.alloc (.cells (cU a0 v0) 27)).alloc (.cells (cU a1 v1) 27)) (w.heap.size + 1) a1 v1 from by rw [← e1]; exact UrlAt.new _ a1 v1)
  have HM := Lib.hid (hm.later HB0.out)
  have HS := Lib.hid (s0.later HB0.out)
  have HT := Lib.hid (s1.later HB0.out)
  clear e1 b1 hm s0 s1 w0 w1
  go_enter Tryz.func6, Tryz.ntmps6
  go_wp2_with fail
  generalize (w.alloc (.cells (cU a0 v0) 27)).alloc (.cells (cU a1 v1) 27) = X0 at HB0 HU HV HM HS HT ⊢
  refine (Show.awake_calls m X0 HM.out).mono ?_
  rintro e X1 ⟨rfl, hB⟩
  have HB1 := Lib.hid hB
  clear hB
  have hu := HU.out.later HB1.out
  obtain ⟨f0, hf0⟩ : ∃ b, fewU a0 = b := ⟨_, rfl⟩
  go_wp2_with ((with_reducible refine wp_load27 (o := ⟨some 9, .load 27 (.tmp 2), _, _, _, _⟩) ?_ (.tmp 2) ?_ w.heap.size ?_ a0 v0 l0 hu ?_); (· rfl); (· rfl); (· rfl); simp only [Act.put, List.setIfInBounds_toArray, List.set_cons_zero, List.set_cons_succ])
  refine (few_any a0 v0 l0 f0 hf0 _ (HS.out.later HB1.out)).mono ?_
  rintro e X2 ⟨rfl, hB⟩
  have HB2 := Lib.hid (below_trans HB1.out hB)
  clear hB HB1 hu
  have hv := HV.out.later HB2.out
  obtain ⟨f1, hf1⟩ : ∃ b, fewU a1 = b := ⟨_, rfl⟩
  go_wp2_with ((with_reducible refine wp_load27 (o := ⟨some 11, .load 27 (.tmp 3), _, _, _, _⟩) ?_ (.tmp 3) ?_ (w.heap.size + 1) ?_ a1 v1 l1 hv ?_); (· rfl); (· rfl); (· rfl); simp only [Act.put, List.setIfInBounds_toArray, List.set_cons_zero, List.set_cons_succ])
  refine (few_any a1 v1 l1 f1 hf1 _ (HT.out.later HB2.out)).mono ?_
  rintro e X3 ⟨rfl, hB⟩
  have HB3 := Lib.hid (below_trans HB2.out hB)
  clear hB HB2 hv
  cases f0
  · go_wp2
    go_ret
    exact ⟨rfl, HB0.out.trans (HB3.out.mono HB0.out.size)⟩
  cases f1
  · go_wp2
    go_ret
    exact ⟨rfl, HB0.out.trans (HB3.out.mono HB0.out.size)⟩
  have F0 := few_fit a0 l0 hf0
  have F1 := few_fit a1 l1 hf1
  obtain ⟨b0, hb0⟩ : ∃ b, mayU a0 = b := ⟨_, rfl⟩
  obtain ⟨b1, hb1⟩ : ∃ b, mayU a1 = b := ⟨_, rfl⟩
  have CA := Lib.hid (fun x hx hy => may_any a0 v0 F0 b0 hb0 m x hx hy)
  have CB := Lib.hid (fun x hx hy => may_any a1 v1 F1 b1 hb1 m x hx hy)
  have C0 := Lib.hid (fun x hx hy => Show.show_any a0 v0 F0 (tb (showU a0)) rfl m x hx hy)
  have C1 := Lib.hid (fun x hx hy => Show.show_any a1 v1 F1 (tb (showU a1)) rfl m x hx hy)
  obtain ⟨q, hq⟩ : ∃ q, sameU a0 a1 = q := ⟨_, rfl⟩
  have CQ := Lib.hid (fun x hx hy => same_any a0 a1 v0 v1 l0 l1 q hq x hx hy)
  have HE := Lib.hid (show b0 = true → b1 = true → ((tb (showU a0)).toList == (tb (showU a1)).toList) = q from fun h1 h2 => by
    rw [Path.tl, Path.tl, tb_list, tb_list, ← hq, Bool.eq_iff_iff, beq_iff_eq, same_iff]
    exact ⟨fun e => show_inj (hb0.trans h1) l0 (hb1.trans h2) l1 e, fun e => by rw [e]⟩)
  clear hb0 hb1 hq hf0 hf1 F0 F1
  generalize tb (showU a0) = x0 at C0 HE
  generalize tb (showU a1) = x1 at C1 HE
  have hu := HU.out.later HB3.out
  go_wp2_with ((with_reducible refine wp_load27 (o := ⟨some 24, .load 27 (.tmp 2), _, _, _, _⟩) ?_ (.tmp 2) ?_ w.heap.size ?_ a0 v0 l0 hu ?_); (· rfl); (· rfl); (· rfl); simp only [Act.put, List.setIfInBounds_toArray, List.set_cons_zero, List.set_cons_succ])
  refine (CA.out _ (HM.out.later HB3.out) (HS.out.later HB3.out)).mono ?_
  rintro e X4 ⟨rfl, hB⟩
  have HB4 := Lib.hid (below_trans HB3.out hB)
  clear hB HB3 hu CA
  cases b0
  · go_wp2
    go_ret
    exact ⟨rfl, HB0.out.trans (HB4.out.mono HB0.out.size)⟩
  have hv := HV.out.later HB4.out
  go_wp2_with ((with_reducible refine wp_load27 (o := ⟨some 29, .load 27 (.tmp 3), _, _, _, _⟩) ?_ (.tmp 3) ?_ (w.heap.size + 1) ?_ a1 v1 l1 hv ?_); (· rfl); (· rfl); (· rfl); simp only [Act.put, List.setIfInBounds_toArray, List.set_cons_zero, List.set_cons_succ])
  refine (CB.out _ (HM.out.later HB4.out) (HT.out.later HB4.out)).mono ?_
  rintro e X5 ⟨rfl, hB⟩
  have HB := Lib.hid (below_trans HB4.out hB)
  clear hB HB4 hv CB
  cases b1
  · go_wp2
    go_ret
    exact ⟨rfl, HB0.out.trans (HB.out.mono HB0.out.size)⟩
  have hE : (x0.toList == x1.toList) = q := by simpa using HE.out
  have L0 := Lib.hid (q_url (HU.out.later HB.out) l0)
  have L1 := Lib.hid (q_url (HV.out.later HB.out) l1)
  clear HE
  go_upto_region 6 with fail
  refine Ascii.wp_region_quiet_below (by kernel_rfl) (by kernel_rfl) ?_
  ((go_big_quiet_want; (with_reducible refine Host.quiet_load (o := ⟨some 34, .load 27 (.tmp 2), _, _, _, _⟩) 27 (.tmp 2) ?_ _ ?_ _ L0.out ?_); (· rfl); (· rfl)); go_big_quiet_on; simp only [Act.put, List.setIfInBounds_toArray, List.set_cons_succ, List.set_cons_zero])
  go_big_quiet_step ((intro hu; go_at_call 29; exact (C0.out _ (HM.out.later (below_trans HB.out hu)) (HS.out.later (below_trans HB.out hu))).mono fun e u' h => ⟨h.1, hu.trans (h.2.mono hu.size)⟩))
  ((go_big_quiet_want; (with_reducible refine Host.quiet_load (o := ⟨some 36, .load 27 (.tmp 3), _, _, _, _⟩) 27 (.tmp 3) ?_ _ ?_ _ L1.out ?_); (· rfl); (· rfl)); go_big_quiet_on; simp only [Act.put, List.setIfInBounds_toArray, List.set_cons_succ, List.set_cons_zero])
  go_big_quiet_step ((intro hu; go_at_call 29; exact (C1.out _ (HM.out.later (below_trans HB.out hu)) (HT.out.later (below_trans HB.out hu))).mono fun e u' h => ⟨h.1, hu.trans (h.2.mono hu.size)⟩))
  iterate 1 (go_big_quiet_step ((intro _; rfl)))
  ((go_big_quiet_want; (with_reducible refine Host.quiet_load (o := ⟨some 39, .load 27 (.tmp 2), _, _, _, _⟩) 27 (.tmp 2) ?_ _ ?_ _ L0.out ?_); (· rfl); (· rfl)); go_big_quiet_on; simp only [Act.put, List.setIfInBounds_toArray, List.set_cons_succ, List.set_cons_zero])
  ((go_big_quiet_want; (with_reducible refine Host.quiet_load (o := ⟨some 40, .load 27 (.tmp 3), _, _, _, _⟩) 27 (.tmp 3) ?_ _ ?_ _ L1.out ?_); (· rfl); (· rfl)); go_big_quiet_on; simp only [Act.put, List.setIfInBounds_toArray, List.set_cons_succ, List.set_cons_zero])
  go_big_quiet_step ((intro hu; go_at_call 21; exact (CQ.out _ (HS.out.later (below_trans HB.out hu)) (HT.out.later (below_trans HB.out hu))).mono fun e u' h => ⟨h.1, hu.trans (h.2.mono hu.size)⟩))
  repeat (go_big_quiet_step ((intro _; rfl)))
  refine wpQuiet_nil ?_
  intro z hz
  go_wp2
  go_ret
  exact ⟨rfl, HB0.out.trans ((below_trans HB.out hz).mono HB0.out.size)⟩

/-! ### The row's step -/
theorem reads (os : Os) {H : Type} (enc : TypeId × Value → H) : (DataW.whole enc Tryz.prog ((Card.laidWorld os).forCall (fun _ _ => 0) ⟨#[], #[.agg #[.string ByteArray.empty, .string ByteArray.empty, .string ByteArray.empty, .int .i64 0, .string ByteArray.empty, .int .i64 0, .int .i64 0, .int .i64 0, .int .i64 0, .int .i64 0, .int .i64 0, .int .i64 0, .int .i64 0, .int .i64 0, .int .i64 0, .slice none 0 0, .string ByteArray.empty, .string ByteArray.empty, .string ByteArray.empty, .bool false, .bool false], .agg #[.string ByteArray.empty, .string ByteArray.empty, .string ByteArray.empty, .int .i64 0, .string ByteArray.empty, .int .i64 0, .int .i64 0, .int .i64 0, .int .i64 0, .int .i64 0, .int .i64 0, .int .i64 0, .int .i64 0, .int .i64 0, .int .i64 0, .slice none 0 0, .string ByteArray.empty, .string ByteArray.empty, .string ByteArray.empty, .bool false, .bool false]], []⟩).memory Tryz.f6.params.toList Rows.showApartSpec.vars false (#[.agg #[.string ByteArray.empty, .string ByteArray.empty, .string ByteArray.empty, .int .i64 0, .string ByteArray.empty, .int .i64 0, .int .i64 0, .int .i64 0, .int .i64 0, .int .i64 0, .int .i64 0, .int .i64 0, .int .i64 0, .int .i64 0, .int .i64 0, .slice none 0 0, .string ByteArray.empty, .string ByteArray.empty, .string ByteArray.empty, .bool false, .bool false], .agg #[.string ByteArray.empty, .string ByteArray.empty, .string ByteArray.empty, .int .i64 0, .string ByteArray.empty, .int .i64 0, .int .i64 0, .int .i64 0, .int .i64 0, .int .i64 0, .int .i64 0, .int .i64 0, .int .i64 0, .int .i64 0, .int .i64 0, .slice none 0 0, .string ByteArray.empty, .string ByteArray.empty, .string ByteArray.empty, .bool false, .bool false]] : Array Value).toList 8).map (fun x => (x.1, x.2.1)) = some ([.agg [.lit (.string []), .lit (.string []), .lit (.string []), .agg [.lit (.int .i64 0), .lit (.string []), .lit (.int .i64 0), .agg [.lit (.int .i64 0), .lit (.int .i64 0), .lit (.int .i64 0), .lit (.int .i64 0), .lit (.int .i64 0), .lit (.int .i64 0), .lit (.int .i64 0), .lit (.int .i64 0)]], .lit (.int .i64 0), .nil, .lit (.string []), .lit (.string []), .lit (.string []), .lit (.bool false), .lit (.bool false)], .agg [.lit (.string []), .lit (.string []), .lit (.string []), .agg [.lit (.int .i64 0), .lit (.string []), .lit (.int .i64 0), .agg [.lit (.int .i64 0), .lit (.int .i64 0), .lit (.int .i64 0), .lit (.int .i64 0), .lit (.int .i64 0), .lit (.int .i64 0), .lit (.int .i64 0), .lit (.int .i64 0)]], .lit (.int .i64 0), .nil, .lit (.string []), .lit (.string []), .lit (.string []), .lit (.bool false), .lit (.bool false)]], []) := by kernel_rfl
set_option maxRecDepth 100000 in
theorem lifted (os : Os) (started : os.Started) (H : Type) (enc : TypeId × Value → H) (F : Stop.Interp) :
    ReturnsInHanded {} Tryz.checked os 6 .any ((OpenSpec.ofChange Rows.showApartSpec).preRow enc Tryz.prog Tryz.f6 Rows.showApartRow.domain false Rows.showApartRow.laid) (((OpenSpec.ofChange Rows.showApartSpec).at F).post enc Tryz.prog Tryz.f6 false true false false) := by
  obtain ⟨⟨x1, x2, x3⟩, hx, hx1⟩ := Option.map_eq_some_iff.1 (reads os enc)
  simp only [Prod.mk.injEq] at hx1
  obtain ⟨rfl, rfl⟩ := hx1
  refine returnsInHanded_of_row (C := Tryz.checked) (s := OpenSpec.ofChange Rows.showApartSpec) own started (by kernel_rfl) Tryz.func6
    (witness_row_at (enc := enc) (C := Tryz.checked) false (Card.laidWorld os) #[.agg #[.string ByteArray.empty, .string ByteArray.empty, .string ByteArray.empty, .int .i64 0, .string ByteArray.empty, .int .i64 0, .int .i64 0, .int .i64 0, .int .i64 0, .int .i64 0, .int .i64 0, .int .i64 0, .int .i64 0, .int .i64 0, .int .i64 0, .slice none 0 0, .string ByteArray.empty, .string ByteArray.empty, .string ByteArray.empty, .bool false, .bool false], .agg #[.string ByteArray.empty, .string ByteArray.empty, .string ByteArray.empty, .int .i64 0, .string ByteArray.empty, .int .i64 0, .int .i64 0, .int .i64 0, .int .i64 0, .int .i64 0, .int .i64 0, .int .i64 0, .int .i64 0, .int .i64 0, .int .i64 0, .slice none 0 0, .string ByteArray.empty, .string ByteArray.empty, .string ByteArray.empty, .bool false, .bool false]] rfl (by kernel_rfl) (by kernel_rfl) (by kernel_rfl)
      (OpenSpec.preRow_of_cond 8 hx (by kernel_rfl) (fun k hk => by cases hk) (by kernel_rfl) (Card.laid_met os _))) ?_
  intro W base args ds gs before hval0 hW _ _ _ hL hsh _
  obtain ⟨m, hmax⟩ := Card.maxLen_int hsh
  have hm : Six.At m W := ⟨hmax, Six.tab_of hL⟩
  have hval : ∀ (j : Nat) t v, Tryz.f6.params[j]? = some t → args[j]? = some v → Value.okWide Tryz.prog W .any base t v := hval0
  have hW' := hW
  obtain ⟨p, q, hA0, hV, rfl, hfz, hnd⟩ := hW
  have hA : DataW.TrodAll enc Tryz.prog W 0 (fun _ => true) true Tryz.f6.params.toList args.toList ds p := hA0
  rw [Tryz.params6] at hA hval
  obtain ⟨v0, vs0, d0, ds0, p0, q0, hargs0, rfl, rfl, t0, r0⟩ := trodAll_cons hA
  obtain ⟨v1, vs1, d1, ds1, p1, q1, hargs1, rfl, rfl, t1, r1⟩ := trodAll_cons r0
  obtain ⟨rfl, rfl, rfl⟩ := trodAll_nil r1
  obtain rfl : args = #[v0, v1] := by cases args; simp_all
  obtain ⟨rfl, rfl⟩ := trodVars_none hV
  have k0 := t0
  have lt0 : ∀ x ∈ p0, x.block < W.heap.size := by obtain ⟨m, hm⟩ := k0; exact DataW.trod_lt m _ _ _ hm
  obtain ⟨a0, pv0, l0, rfl, z0, w0⟩ := Url.open_url (hval 0 27 v0 rfl rfl) t0
  have k1 := t1
  have lt1 : ∀ x ∈ p1, x.block < W.heap.size := by obtain ⟨m, hm⟩ := k1; exact DataW.trod_lt m _ _ _ hm
  obtain ⟨a1, pv1, l1, rfl, z1, w1⟩ := Url.open_url (hval 1 27 v1 rfl rfl) t1
  clear hA0 hval0
  simp only [List.append_nil] at hW'
  refine (walk a0 pv0 l0 a1 pv1 l1  m W hm z0 w0 z1 w1).mono fun e W' ⟨he, bel⟩ => ?_
  subst he
  exact ⟨_, rfl, _, _, _, [], _, [], hW', trodAll_mk1 (shut_bool Tryz.underlying4 _), (trodAll_cons_mk (Below.trod laidOut (by kernel_rfl) (of_decide_eq_true (by kernel_rfl)) k0 bel lt0) (trodAll_cons_mk (Below.trod laidOut (by kernel_rfl) (of_decide_eq_true (by kernel_rfl)) k1 bel lt1) trodAll_mk0)), rfl, bel.frame _, fun h => by cases h⟩

theorem said : Rows.showApartRow.holds Tryz.pinned (OpenSpec.ofChange Rows.showApartSpec) :=
  OpenClaim.holds_of_cond 6 Tryz.f6 rfl rfl rfl rfl rfl rfl rfl ⟨rfl, rfl, rfl, rfl, rfl⟩ rfl rfl rfl rfl rfl (by kernel_rfl) Tryz.func6 (by kernel_rfl)
    (of_decide_eq_true (by kernel_rfl)) (by unfold Func.isWrapper; first | (rw [if_pos (by decide +kernel)]; kernel_rfl) | (rw [if_neg (by decide +kernel)]; exact ⟨rfl, rfl⟩))
    (fun os started H enc _ F => by rw [OpenClaim.pre_eq_preRow]; exact lifted os started H enc F)

/-- No parameter wants a stand-in; the program's own looks are on. -/
theorem plain (f : FuncId) (fn : Func) (hf : Tryz.pinned.checked.prog.funcNamed Rows.showApartRow.func = some f) (hfn : Tryz.pinned.checked.prog.funcs[f]? = some fn) :
    true = Tryz.pinned.checked.prog.looks [] ∧ ∀ (j : Nat) t, fn.params[j]? = some t → Tryz.pinned.checked.prog.wantsStandIn t = false := by
  obtain rfl : f = 6 := Option.some.inj ((show Tryz.prog.funcNamed Rows.showApartRow.func = some 6 by kernel_rfl).symm.trans hf) |>.symm
  obtain rfl : fn = Tryz.f6 := (Option.some.inj (Tryz.func6.symm.trans hfn)).symm
  refine ⟨by kernel_rfl, fun j t ht => ?_⟩
  rw [Tryz.params6] at ht
  obtain rfl : t = 27 := by simpa using Array.mem_of_getElem? ht
  · exact (show Tryz.prog.wantsStandIn 27 = false by kernel_rfl)

/-- The statement: the card. -/
theorem proved : Rows.ShowApartCardSaid :=
  Claim7.holds_tied_plain_at .later [] _ _ _ _ said (fun _ h => by cases h) (by kernel_rfl) (fun _ h => by cases h) showApart_row_tie rfl ⟨rfl, rfl⟩ (by kernel_rfl) rfl plain (by kernel_rfl)
#print axioms proved
end Go.Proofs.YtkjkcgbmfglihaaGreatDoor.showApart
