/-
  WHAT IS PROVED: the card of TaintPolicy: for any request not of MoCors, not tainted, by another method than GET and HEAD, whose address has few and short parts and whose texts are short: PoNever tells null, and PoAll, PoOrigin and PoCross tell the origin of who asks.
  CONDITIONS: none but the card's own: the listed tables read as their texts lay them; the request is any.
-/
import Derived.Test.YtlkikfdbjpjpaaaGreatDoorCards
import Derived.Test.YtlkikfdbjpjpaaaGreatDoorTie
import Derived.WalkKit
import Derived.ProofKit
import Derived.OpenShut
import Derived.ShutString
import Derived.ChangeOld
import Derived.Below
import Derived.Deep.RegionHeld
import Derived.Laws.AppendOwnNone
import Derived.Test.YtlkikfdbjpjpaaaGreatDoorTnAwake
import Derived.Test.YtlkikfdbjpjpaaaGreatDoorRqOpen
import Derived.Test.YtlkikfdbjpjpaaaGreatDoorLaid
import Derived.Test.YtlkikfdbjpjpaaaGreatDoorHOpen
namespace Go.Proofs.YtlkikfdbjpjpaaaGreatDoor.taintPolicy
open Go.ChangeShapes Go.WideShapes Go.ChangeAt Go.RowKit
open Go.ChangeMaps (open_string shut_string)
open Go.Shelf
open Go.Proofs.YtlkikfdbjpjpaaaGreatDoor.Url
open Go.Proofs.YtlkikfdbjpjpaaaGreatDoor.Host (H)
open Go.Proofs.YtlkikfdbjpjpaaaGreatDoor.Path (Strs)
set_option linter.unusedSimpArgs false
set_option linter.unusedVariables false

theorem own : ownKnob Tryz.prog.godebug = none := by kernel_rfl
theorem laidOut : laidOutB Tryz.prog = true := by kernel_rfl

open Go.Proofs.YtlkikfdbjpjpaaaGreatDoor.Show
open Go.Proofs.YtlkikfdbjpjpaaaGreatDoor.Origin
set_option maxRecDepth 100000
set_option maxHeartbeats 16000000 in
theorem walk (a0 : Req.R) (v0 x0 : Value) (l0 : Req.R8 a0) (m : Int) (w : World) (hm : Six.At m w) (s0 : Path.Strs w v0 a0.url.path) (y0 : x0.oneCell' = true) (p0 : (Lit.int .i64 a0.o.port).wf = true) :
    Calls Tryz.prog 7 #[.agg (Req.cR a0 v0 x0)] w fun e w' => e = .returned (.bool true) ∧ Below w.heap.size w w' := by
  have b1 : Below w.heap.size w (w.alloc (.cells (Req.cR a0 v0 x0) 32)) := (Below.refl w.heap.size w).alloc (Nat.le_refl _) _
  have HX := Lib.hid b1
  have HQ0 := Lib.hid (Req.RAt.new w a0 v0 x0)
  have HM0 := Lib.hid (hm.later HX.out)
  have HP0 := Lib.hid (s0.later HX.out)
  have PP := Lib.hid s0
  have MM := Lib.hid hm
  clear hm b1 s0
  go_enter Tryz.func7, Tryz.ntmps7
  go_wp2_with fail
  generalize (w.alloc (.cells (Req.cR a0 v0 x0) 32)) = X0 at HX HM0 HQ0 HP0  ⊢
  refine (Taint.awake_calls m X0 HM0.out).mono ?_
  rintro e X1 ⟨rfl, hB⟩
  have HB1 := Lib.hid (hB)
  have HQ1 := Lib.hid (HQ0.out.later hB)
  have HM1 := Lib.hid (HM0.out.later hB)
  have HP1 := Lib.hid (HP0.out.later hB)
  clear HQ0 HM0 HP0
  clear hB
  obtain ⟨f0, hf0⟩ : ∃ b, Req.fewR a0 = b := ⟨_, rfl⟩
  have hu := HQ1.out
  go_wp2_with ((with_reducible refine Req.wp_load32 (o := ⟨some 15, .load 32 (.tmp 1), _, _, _, _⟩) ?_ (.tmp 1) ?_ w.heap.size ?_ a0 v0 x0 l0 hu ?_); (· rfl); (· rfl); (· rfl); simp only [Act.put, List.setIfInBounds_toArray, List.set_cons_zero, List.set_cons_succ])
  refine (Req.few_req_any a0 v0 x0 l0 f0 hf0 _ HP1.out).mono ?_
  rintro e X2 ⟨rfl, hB⟩
  have HB2 := Lib.hid (below_trans HB1.out hB)
  have HQ2 := Lib.hid (HQ1.out.later hB)
  have HM2 := Lib.hid (HM1.out.later hB)
  have HP2 := Lib.hid (HP1.out.later hB)
  clear HB1 HQ1 HM1 HP1
  clear hB hu
  cases f0
  · go_wp2
    go_ret
    exact ⟨rfl, HX.out.trans (HB2.out.mono HX.out.size)⟩
  have Q := (Req.few_req a0 l0 p0 hf0).1
  obtain ⟨n, hn⟩ : ∃ n, a0.mode = n := ⟨_, rfl⟩
  obtain ⟨d, hd⟩ : ∃ b, (n == 1) = b := ⟨_, rfl⟩
  obtain ⟨t, ht⟩ : ∃ b, a0.tnt = b := ⟨_, rfl⟩
  obtain ⟨M, hM⟩ : ∃ x, tb a0.mth = x := ⟨_, rfl⟩
  obtain ⟨g, hg⟩ : ∃ b, (a0.mth == Taint.getT) = b := ⟨_, rfl⟩
  obtain ⟨k, hk⟩ : ∃ b, (a0.mth == Taint.headT) = b := ⟨_, rfl⟩
  have e1 : (M.toList == [71, 69, 84]) = g := by rw [← hg, Path.tl, list_tb hM]; rfl
  have e2 : (M.toList == [72, 69, 65, 68]) = k := by rw [← hk, Path.tl, list_tb hM]; rfl
  obtain ⟨S, hS⟩ : ∃ x, tb (showO a0.o) = x := ⟨_, rfl⟩
  have HL := Lib.hid (show d = false → g = false → k = false → t = false → _ from fun y1 y2 y3 y4 => Taint.policy_law a0 (by rw [hn]; rw [y1] at hd; exact beq_eq_false_iff_ne.1 hd) (by unfold Taint.asksB; rw [hg, hk, y2, y3]; rfl) (ht.trans y4))
  have QF := Lib.hid (show ∀ p : Int, Req.QFit { a0 with pol := p } from fun p => ⟨⟨Q.r8.u, Q.r8.o⟩, Q.u, Q.pt, Q.os, Q.ol, Q.op⟩)
  have HS' := Lib.hid hS
  have C5 := Lib.hid (fun y hm => oshow_any a0.o l0.o Q.os Q.ol S hS m y hm)
  have HNN := Lib.hid hn
  have HTT := Lib.hid ht
  have HMM := Lib.hid hM
  clear hf0 Q hn ht hM hg hk hS
  have c38 := HQ2.out.cell 38
  rw [(Req.cR_at a0 v0 x0 l0).2.2.2.1, HNN.out] at c38
  have c21 := HQ2.out.cell 21
  rw [(Req.cR_at a0 v0 x0 l0).1, HMM.out] at c21
  have c42 := HQ2.out.cell 42
  rw [(Req.cR_at a0 v0 x0 l0).2.2.2.2.2.2.2.1, HTT.out] at c42
  cases d
  rotate_left
  · go_wp2
    go_ret
    exact ⟨rfl, HX.out.trans (HB2.out.mono HX.out.size)⟩
  cases g
  rotate_left
  · go_wp2
    go_ret
    exact ⟨rfl, HX.out.trans (HB2.out.mono HX.out.size)⟩
  cases k
  rotate_left
  · go_wp2
    go_ret
    exact ⟨rfl, HX.out.trans (HB2.out.mono HX.out.size)⟩
  cases t
  rotate_left
  · go_wp2
    go_ret
    exact ⟨rfl, HX.out.trans (HB2.out.mono HX.out.size)⟩
  obtain ⟨⟨u1, u2⟩, h2⟩ := HL.out rfl rfl rfl rfl
  have K1 := Lib.hid (fun y hm hs => Taint.sends_any { a0 with pol := 1 } v0 x0 (QF.out 1) y0 true u1 ⟨#[110, 117, 108, 108]⟩ (by rw [u2]; rfl) m y hm hs)
  have K2 := Lib.hid (fun (p : Int) (h : p = 8 ∨ p = 4 ∨ p = 6) y hm hs => Taint.sends_any { a0 with pol := p } v0 x0 (QF.out p) y0 true (h2 p h).1 S (by rw [(h2 p h).2]; exact HS'.out) m y hm hs)
  have L8 := fun p : Int => (⟨l0.u, l0.o⟩ : Req.R8 { a0 with pol := p })
  clear HL QF u1 u2 h2 HNN HTT HMM
  have HW0 := Lib.hid (HX.out.trans (HB2.out.mono HX.out.size))
  have RQ0 := Lib.hid HQ2.out
  clear HB2 HQ2 HM2 HP2
  have dd := RQ0.out.cell 40
  rw [(Req.cR_at a0 v0 x0 l0).2.2.2.2.2.1] at dd
  have ff := RQ0.out.free 40
  go_upto_region 6 with fail
  clear dd ff
  have RQ1 := Lib.hid (show Req.RAt (X2.setCell ⟨w.heap.size, 40, none⟩ (.int .i64 1)) w.heap.size { a0 with pol := 1 } v0 x0 from RQ0.out.pol l0 1)
  have HW1 := Lib.hid (below_set HW0.out (Nat.le_refl w.heap.size) 40 (.int .i64 1))
  clear RQ0 HW0
  generalize X2.setCell ⟨w.heap.size, 40, none⟩ (.int .i64 1) = Y1 at RQ1 HW1 ⊢
  clear c38 c21 c42
  have hu := RQ1.out
  go_wp2_with ((with_reducible refine Req.wp_load32 (o := ⟨some 45, .load 32 (.tmp 1), _, _, _, _⟩) ?_ (.tmp 1) ?_ w.heap.size ?_ { a0 with pol := 1 } v0 x0 (L8 1) hu ?_); (· rfl); (· rfl); (· rfl); simp only [Act.put, List.setIfInBounds_toArray, List.set_cons_zero, List.set_cons_succ])
  refine (K1.out _ (MM.out.later HW1.out) (PP.out.later HW1.out)).mono ?_
  rintro e X3 ⟨rfl, hB⟩
  have HW2 := Lib.hid (HW1.out.trans (hB.mono HW1.out.size))
  have RQ2 := Lib.hid (RQ1.out.later hB)
  clear HW1 RQ1 hB hu
  have dd := RQ2.out.cell 40
  rw [(Req.cR_at { a0 with pol := 1 } v0 x0 (L8 1)).2.2.2.2.2.1] at dd
  have ff := RQ2.out.free 40
  go_upto_region 8 with fail
  clear dd ff
  have RQ3 := Lib.hid (show Req.RAt (X3.setCell ⟨w.heap.size, 40, none⟩ (.int .i64 8)) w.heap.size { a0 with pol := 8 } v0 x0 from RQ2.out.pol (L8 1) 8)
  have HW3 := Lib.hid (below_set HW2.out (Nat.le_refl w.heap.size) 40 (.int .i64 8))
  clear RQ2 HW2
  generalize X3.setCell ⟨w.heap.size, 40, none⟩ (.int .i64 8) = Y3 at RQ3 HW3 ⊢
  have hu := RQ3.out
  go_wp2_with ((with_reducible refine Req.wp_load32 (o := ⟨some 51, .load 32 (.tmp 1), _, _, _, _⟩) ?_ (.tmp 1) ?_ w.heap.size ?_ { a0 with pol := 8 } v0 x0 (L8 8) hu ?_); (· rfl); (· rfl); (· rfl); simp only [Act.put, List.setIfInBounds_toArray, List.set_cons_zero, List.set_cons_succ])
  refine (K2.out 8 (by decide) _ (MM.out.later HW3.out) (PP.out.later HW3.out)).mono ?_
  rintro e X4 ⟨rfl, hB⟩
  have HW4 := Lib.hid (HW3.out.trans (hB.mono HW3.out.size))
  have RQ4 := Lib.hid (RQ3.out.later hB)
  clear HW3 RQ3 hB hu
  have dd := RQ4.out.cell 40
  rw [(Req.cR_at { a0 with pol := 8 } v0 x0 (L8 8)).2.2.2.2.2.1] at dd
  have ff := RQ4.out.free 40
  go_upto_region 10 with fail
  clear dd ff
  have RQ5 := Lib.hid (show Req.RAt (X4.setCell ⟨w.heap.size, 40, none⟩ (.int .i64 4)) w.heap.size { a0 with pol := 4 } v0 x0 from RQ4.out.pol (L8 8) 4)
  have HW5 := Lib.hid (below_set HW4.out (Nat.le_refl w.heap.size) 40 (.int .i64 4))
  clear RQ4 HW4
  generalize X4.setCell ⟨w.heap.size, 40, none⟩ (.int .i64 4) = Y5 at RQ5 HW5 ⊢
  have hu := RQ5.out
  go_wp2_with ((with_reducible refine Req.wp_load32 (o := ⟨some 57, .load 32 (.tmp 1), _, _, _, _⟩) ?_ (.tmp 1) ?_ w.heap.size ?_ { a0 with pol := 4 } v0 x0 (L8 4) hu ?_); (· rfl); (· rfl); (· rfl); simp only [Act.put, List.setIfInBounds_toArray, List.set_cons_zero, List.set_cons_succ])
  refine (K2.out 4 (by decide) _ (MM.out.later HW5.out) (PP.out.later HW5.out)).mono ?_
  rintro e X5 ⟨rfl, hB⟩
  have HW6 := Lib.hid (HW5.out.trans (hB.mono HW5.out.size))
  have RQ6 := Lib.hid (RQ5.out.later hB)
  clear HW5 RQ5 hB hu
  have dd := RQ6.out.cell 40
  rw [(Req.cR_at { a0 with pol := 4 } v0 x0 (L8 4)).2.2.2.2.2.1] at dd
  have ff := RQ6.out.free 40
  go_upto_region 12 with fail
  clear dd ff
  have RQ7 := Lib.hid (show Req.RAt (X5.setCell ⟨w.heap.size, 40, none⟩ (.int .i64 6)) w.heap.size { a0 with pol := 6 } v0 x0 from RQ6.out.pol (L8 4) 6)
  have HW7 := Lib.hid (below_set HW6.out (Nat.le_refl w.heap.size) 40 (.int .i64 6))
  clear RQ6 HW6
  generalize X5.setCell ⟨w.heap.size, 40, none⟩ (.int .i64 6) = Y7 at RQ7 HW7 ⊢
  have hu := RQ7.out
  go_wp2_with ((with_reducible refine Req.wp_load32 (o := ⟨some 63, .load 32 (.tmp 1), _, _, _, _⟩) ?_ (.tmp 1) ?_ w.heap.size ?_ { a0 with pol := 6 } v0 x0 (L8 6) hu ?_); (· rfl); (· rfl); (· rfl); simp only [Act.put, List.setIfInBounds_toArray, List.set_cons_zero, List.set_cons_succ])
  refine (K2.out 6 (by decide) _ (MM.out.later HW7.out) (PP.out.later HW7.out)).mono ?_
  rintro e X6 ⟨rfl, hB⟩
  have HW8 := Lib.hid (HW7.out.trans (hB.mono HW7.out.size))
  have RQ8 := Lib.hid (RQ7.out.later hB)
  clear HW7 RQ7 hB hu
  have hu := RQ8.out
  go_wp2_with ((with_reducible refine Req.wp_load29r (o := ⟨some 68, .load 30 (.tmp 67), _, _, _, _⟩) ?_ (.tmp 67) ?_ w.heap.size ?_ { a0 with pol := 6 } v0 x0 (L8 6) hu ?_); (· rfl); (· rfl); (· rfl); simp only [Act.put, List.setIfInBounds_toArray, List.set_cons_zero, List.set_cons_succ])
  refine (C5.out _ (MM.out.later HW8.out)).mono ?_
  rintro e X7 ⟨rfl, hB⟩
  have HW9 := Lib.hid (HW8.out.trans (hB.mono HW8.out.size))
  have RQ9 := Lib.hid (RQ8.out.later hB)
  clear HW8 RQ8 hB hu C5
  have e8 : (S.toList == S.toList) = true := beq_iff_eq.2 rfl
  go_wp2
  go_ret
  exact ⟨rfl, HW9.out⟩

/-! ### The row's step -/
theorem reads (os : Os) {H : Type} (enc : TypeId × Value → H) : (DataW.whole enc Tryz.prog ((Card.laidWorld os).forCall (fun _ _ => 0) ⟨#[], #[.agg (Req.cR Req.zeroR (.slice none 0 0) (.slice none 0 0))], []⟩).memory Tryz.f7.params.toList Rows.taintPolicySpec.vars false (#[.agg (Req.cR Req.zeroR (.slice none 0 0) (.slice none 0 0))] : Array Value).toList 8).map (fun x => (x.1, x.2.1)) = some ([.agg [.agg [.lit (.string []), .lit (.string []), .lit (.string []), .agg [.lit (.int .i64 0), .lit (.string []), .lit (.int .i64 0), .agg [.lit (.int .i64 0), .lit (.int .i64 0), .lit (.int .i64 0), .lit (.int .i64 0), .lit (.int .i64 0), .lit (.int .i64 0), .lit (.int .i64 0), .lit (.int .i64 0)]], .lit (.int .i64 0), .nil, .lit (.string []), .lit (.string []), .lit (.string []), .lit (.bool false), .lit (.bool false)], .lit (.string []), .nil, .lit (.bool false), .agg [.lit (.bool false), .lit (.string []), .agg [.lit (.int .i64 0), .lit (.string []), .lit (.int .i64 0), .agg [.lit (.int .i64 0), .lit (.int .i64 0), .lit (.int .i64 0), .lit (.int .i64 0), .lit (.int .i64 0), .lit (.int .i64 0), .lit (.int .i64 0), .lit (.int .i64 0)]], .lit (.int .i64 0)], .lit (.int .i64 0), .lit (.int .i64 0), .lit (.int .i64 0), .lit (.string []), .lit (.bool false), .lit (.bool false), .lit (.int .i64 0)]], []) := by kernel_rfl
set_option maxRecDepth 100000 in
theorem lifted (os : Os) (started : os.Started) (H : Type) (enc : TypeId × Value → H) (F : Stop.Interp) :
    ReturnsInHanded {} Tryz.checked os 7 .any ((OpenSpec.ofChange Rows.taintPolicySpec).preRow enc Tryz.prog Tryz.f7 Rows.taintPolicyRow.domain false Rows.taintPolicyRow.laid) (((OpenSpec.ofChange Rows.taintPolicySpec).at F).post enc Tryz.prog Tryz.f7 false true false false) := by
  obtain ⟨⟨x1, x2, x3⟩, hx, hx1⟩ := Option.map_eq_some_iff.1 (reads os enc)
  simp only [Prod.mk.injEq] at hx1
  obtain ⟨rfl, rfl⟩ := hx1
  refine returnsInHanded_of_row (C := Tryz.checked) (s := OpenSpec.ofChange Rows.taintPolicySpec) own started (by kernel_rfl) Tryz.func7
    (witness_row_at (enc := enc) (C := Tryz.checked) false (Card.laidWorld os) #[.agg (Req.cR Req.zeroR (.slice none 0 0) (.slice none 0 0))] rfl (by kernel_rfl) (by kernel_rfl) (by kernel_rfl)
      (OpenSpec.preRow_of_cond 8 hx (by kernel_rfl) (fun k hk => by cases hk) (by kernel_rfl) (Card.laid_met os _))) ?_
  intro W base args ds gs before hval0 hW _ _ _ hL hsh _
  obtain ⟨m, hmax⟩ := Card.maxLen_int hsh
  have hm : Six.At m W := ⟨hmax, fun _ => Six.tab_of hL⟩
  have hval : ∀ (j : Nat) t v, Tryz.f7.params[j]? = some t → args[j]? = some v → Value.okWide Tryz.prog W .any base t v := hval0
  have hW' := hW
  obtain ⟨p, q, hA0, hV, rfl, hfz, hnd⟩ := hW
  have hA : DataW.TrodAll enc Tryz.prog W 0 (fun _ => true) true Tryz.f7.params.toList args.toList ds p := hA0
  rw [Tryz.params7] at hA hval
  obtain ⟨v0, vs0, d0, ds0, p0, q0, hargs0, rfl, rfl, t0, r0⟩ := trodAll_cons hA
  obtain ⟨rfl, rfl, rfl⟩ := trodAll_nil r0
  obtain rfl : args = #[v0] := by cases args; simp_all
  obtain ⟨rfl, rfl⟩ := trodVars_none hV
  have k0 := t0
  have lt0 : ∀ x ∈ p0, x.block < W.heap.size := by obtain ⟨m, hm⟩ := k0; exact DataW.trod_lt m _ _ _ hm
  obtain ⟨a0, pv0, xv0, l0, rfl, z0, w0, y0⟩ := Req.open_req (hval 0 32 v0 rfl rfl) t0
  clear hA0 hval0
  simp only [List.append_nil] at hW'
  refine (walk a0 pv0 xv0 l0  m W hm z0 w0 y0).mono fun e W' ⟨he, bel⟩ => ?_
  subst he
  exact ⟨_, rfl, _, _, _, [], _, [], hW', trodAll_mk1 (shut_bool Tryz.underlying4 _), (trodAll_cons_mk (Below.trod laidOut (by kernel_rfl) (of_decide_eq_true (by kernel_rfl)) k0 bel lt0) trodAll_mk0), rfl, bel.frame _, fun h => by cases h⟩

theorem said : Rows.taintPolicyRow.holds Tryz.pinned (OpenSpec.ofChange Rows.taintPolicySpec) :=
  OpenClaim.holds_of_cond 7 Tryz.f7 rfl rfl rfl rfl rfl rfl rfl ⟨rfl, rfl, rfl, rfl, rfl⟩ rfl rfl rfl rfl rfl (by kernel_rfl) Tryz.func7 (by kernel_rfl)
    (of_decide_eq_true (by kernel_rfl)) (by unfold Func.isWrapper; first | (rw [if_pos (by decide +kernel)]; kernel_rfl) | (rw [if_neg (by decide +kernel)]; exact ⟨rfl, rfl⟩))
    (fun os started H enc _ F => by rw [OpenClaim.pre_eq_preRow]; exact lifted os started H enc F)

/-- No parameter wants a stand-in; the program's own looks are on. -/
theorem plain (f : FuncId) (fn : Func) (hf : Tryz.pinned.checked.prog.funcNamed Rows.taintPolicyRow.func = some f) (hfn : Tryz.pinned.checked.prog.funcs[f]? = some fn) :
    true = Tryz.pinned.checked.prog.looks [] ∧ ∀ (j : Nat) t, fn.params[j]? = some t → Tryz.pinned.checked.prog.wantsStandIn t = false := by
  obtain rfl : f = 7 := Option.some.inj ((show Tryz.prog.funcNamed Rows.taintPolicyRow.func = some 7 by kernel_rfl).symm.trans hf) |>.symm
  obtain rfl : fn = Tryz.f7 := (Option.some.inj (Tryz.func7.symm.trans hfn)).symm
  refine ⟨by kernel_rfl, fun j t ht => ?_⟩
  rw [Tryz.params7] at ht
  obtain rfl : t = 32 := by simpa using Array.mem_of_getElem? ht
  · exact (show Tryz.prog.wantsStandIn 32 = false by kernel_rfl)

/-- The statement: the card. -/
theorem proved : Rows.TaintPolicyCardSaid :=
  Claim7.holds_tied_plain_at .later [] _ _ _ _ said (fun _ h => by cases h) (by kernel_rfl) (fun _ h => by cases h) taintPolicy_row_tie rfl ⟨rfl, rfl⟩ (by kernel_rfl) rfl plain (by kernel_rfl)
#print axioms proved
end Go.Proofs.YtlkikfdbjpjpaaaGreatDoor.taintPolicy
