/-
  WHAT IS PROVED: the card of ShowParts: of any address whose parts are few and short, and that may be: what is shown begins by the scheme and a colon; it is what is shown of it without a fragment, and behind that a number sign and the fragment, if there is one.
  CONDITIONS: none but the card's own: the listed tables read as their texts lay them; the address is any.
-/
import Derived.Test.YtkjkcgbmfglihaaGreatDoorCards
import Derived.Test.YtkjkcgbmfglihaaGreatDoorTie
import Derived.WalkKit
import Derived.ProofKit
import Derived.OpenShut
import Derived.ShutString
import Derived.ChangeOld
import Derived.Below
import Derived.Deep.RegionHeld
import Derived.Laws.AppendOwnNone
import Derived.Test.YtkjkcgbmfglihaaGreatDoorSHSize
import Derived.Test.YtkjkcgbmfglihaaGreatDoorLaid
import Derived.Test.YtkjkcgbmfglihaaGreatDoorHOpen
namespace Go.Proofs.YtkjkcgbmfglihaaGreatDoor.showParts
open Go.ChangeShapes Go.WideShapes Go.ChangeAt Go.RowKit
open Go.ChangeMaps (open_string shut_string)
open Go.Shelf
open Go.Proofs.YtkjkcgbmfglihaaGreatDoor.Url
open Go.Proofs.YtkjkcgbmfglihaaGreatDoor.Host (H)
open Go.Proofs.YtkjkcgbmfglihaaGreatDoor.Path (Strs)
set_option linter.unusedSimpArgs false
set_option linter.unusedVariables false

theorem own : ownKnob Tryz.prog.godebug = none := by kernel_rfl
theorem laidOut : laidOutB Tryz.prog = true := by kernel_rfl

open Go.Proofs.YtkjkcgbmfglihaaGreatDoor.Show
theorem parts_list (a : U) (h : mayU a = true) (S N : ByteArray) (hS : tb (showU a) = S) (hN : tb a.sch = N) : ∃ h : N.size < S.size, S.extract 0 N.size = N ∧ S[N.size] = 58 := by
  have e : S.data.toList = a.sch ++ 58 :: (midT a ++ (qT a ++ fT a)) := by rw [list_tb hS]; unfold showU; rw [if_pos h]; rfl
  have n : N.size = a.sch.length := size_tb hN
  have hl : N.size < S.size := by rw [← size_list S, e, List.length_append, List.length_cons, n]; omega
  refine ⟨hl, ?_, ?_⟩
  · rw [piece_to S _ (Nat.le_of_lt hl), e, n, List.take_left, hN]
  · have : S.data.toList[N.size]? = some 58 := by
      rw [e, n, List.getElem?_append_right (Nat.le_refl _), Nat.sub_self]; rfl
    obtain ⟨_, h⟩ := List.getElem?_eq_some_iff.1 this
    exact h
set_option maxRecDepth 100000
set_option maxHeartbeats 16000000 in
theorem walk (a0 : U) (v0 : Value) (l0 : a0.h.p.length = 8) (m : Int) (w : World) (hm : Six.At m w) (s0 : Path.Strs w v0 a0.path) (w0 : (Lit.int .i64 a0.port).wf = true) :
    Calls Tryz.prog 8 #[.agg (cU a0 v0)] w fun e w' => e = .returned (.bool true) ∧ Below w.heap.size w w' := by
  have HB0 := Lib.hid (show Below w.heap.size w (w.alloc (.cells (cU a0 v0) 27)) from (Below.refl w.heap.size w).alloc (Nat.le_refl _) _)
  have HU := Lib.hid (UrlAt.new w a0 v0)
  have HM := Lib.hid (hm.later HB0.out)
  have HS := Lib.hid (s0.later HB0.out)
  clear hm s0 w0
  go_enter Tryz.func8, Tryz.ntmps8
  go_wp2_with fail
  generalize w.alloc (.cells (cU a0 v0) 27) = X0 at HB0 HU HM HS ⊢
  refine (Show.awake_calls m X0 HM.out).mono ?_
  rintro e X1 ⟨rfl, hB⟩
  have HB1 := Lib.hid hB
  clear hB
  have hu := HU.out.later HB1.out
  obtain ⟨f0, hf0⟩ : ∃ b, fewU a0 = b := ⟨_, rfl⟩
  go_wp2_with ((with_reducible refine wp_load27 (o := ⟨some 10, .load 27 (.tmp 1), _, _, _, _⟩) ?_ (.tmp 1) ?_ w.heap.size ?_ a0 v0 l0 hu ?_); (· rfl); (· rfl); (· rfl); simp only [Act.put, List.setIfInBounds_toArray, List.set_cons_zero, List.set_cons_succ])
  refine (few_any a0 v0 l0 f0 hf0 _ (HS.out.later HB1.out)).mono ?_
  rintro e X2 ⟨rfl, hB⟩
  have HB2 := Lib.hid (below_trans HB1.out hB)
  clear hB HB1 hu
  cases f0
  · go_wp2
    go_ret
    exact ⟨rfl, HB0.out.trans (HB2.out.mono HB0.out.size)⟩
  have F0 := few_fit a0 l0 hf0
  obtain ⟨b0, hb0⟩ : ∃ b, mayU a0 = b := ⟨_, rfl⟩
  have CA := Lib.hid (fun x hx hy => may_any a0 v0 F0 b0 hb0 m x hx hy)
  have HF0 := Lib.hid F0
  have Hb0 := Lib.hid hb0
  clear F0 hb0 hf0
  have hu := HU.out.later HB2.out
  go_wp2_with ((with_reducible refine wp_load27 (o := ⟨some 19, .load 27 (.tmp 1), _, _, _, _⟩) ?_ (.tmp 1) ?_ w.heap.size ?_ a0 v0 l0 hu ?_); (· rfl); (· rfl); (· rfl); simp only [Act.put, List.setIfInBounds_toArray, List.set_cons_zero, List.set_cons_succ])
  refine (CA.out _ (HM.out.later HB2.out) (HS.out.later HB2.out)).mono ?_
  rintro e X3 ⟨rfl, hB⟩
  have HB3 := Lib.hid (below_trans HB2.out hB)
  clear hB HB2 hu CA
  cases b0
  · go_wp2
    go_ret
    exact ⟨rfl, HB0.out.trans (HB3.out.mono HB0.out.size)⟩
  obtain ⟨S, hS⟩ : ∃ S, tb (showU a0) = S := ⟨_, rfl⟩
  obtain ⟨R, hR⟩ : ∃ R, tb (showU (bareU a0)) = R := ⟨_, rfl⟩
  obtain ⟨N, hN⟩ : ∃ N, tb a0.sch = N := ⟨_, rfl⟩
  obtain ⟨G, hG⟩ : ∃ G, tb a0.frg = G := ⟨_, rfl⟩
  obtain ⟨q, hq⟩ : ∃ q, a0.hf = q := ⟨_, rfl⟩
  have C0 := Lib.hid (fun x hx hy => Show.show_any a0 v0 HF0.out S hS m x hx hy)
  have C1 := Lib.hid (fun x hx => Show.bare_any a0 v0 HF0.out x hx)
  have C2 := Lib.hid (fun pv x hx hy => Show.show_any (bareU a0) pv (bare_fit HF0.out) R hR m x hx hy)
  have HR1 := Lib.hid (show R.size ≤ 100000000000 from show_size _ (bare_fit HF0.out) R hR)
  have HG1 := Lib.hid (show G.size ≤ 1000000 by rw [size_tb hG]; exact HF0.out.frg)
  have HSB := Lib.hid (show_bare a0 Hb0.out)
  have HY := Lib.hid (fun (h : q = true) => show R ++ ⟨#[35]⟩ ++ G = S from by
    have e := HSB.out
    unfold fT at e
    rw [hq, h, if_pos rfl] at e
    apply ByteArray.ext
    apply Array.toList_inj.1
    show (R ++ ⟨#[35]⟩ ++ G).data.toList = S.data.toList
    rw [Path.text_append, Path.text_append, list_tb hS, list_tb hR, list_tb hG, e, show (⟨#[35]⟩ : ByteArray).data.toList = [35] from rfl]
    simp)
  have HZ := Lib.hid (fun (h : q = false) => show R = S from by
    have e := HSB.out
    unfold fT at e
    rw [hq, h, if_neg (by simp), List.append_nil] at e
    rw [← hR, ← hS, e])
  have HP := Lib.hid (parts_list a0 Hb0.out S N hS hN)
  have HN1 := Lib.hid (show N.size ≤ 1000000 by rw [size_tb hN]; exact HF0.out.sch)
  have hu := HU.out.later HB3.out
  have HNe := Lib.hid hN
  have HGe := Lib.hid hG
  have HQe := Lib.hid hq
  clear hS hR hN hG hq
  go_wp2_with ((with_reducible refine wp_load27 (o := ⟨some 24, .load 27 (.tmp 1), _, _, _, _⟩) ?_ (.tmp 1) ?_ w.heap.size ?_ a0 v0 l0 hu ?_); (· rfl); (· rfl); (· rfl); simp only [Act.put, List.setIfInBounds_toArray, List.set_cons_zero, List.set_cons_succ])
  refine (C0.out _ (HM.out.later HB3.out) (HS.out.later HB3.out)).mono ?_
  rintro e X4 ⟨rfl, hB⟩
  have HB4 := Lib.hid (below_trans HB3.out hB)
  clear hB HB3 hu C0
  have hu := HU.out.later HB4.out
  go_wp2_with ((with_reducible refine wp_load27 (o := ⟨some 26, .load 27 (.tmp 1), _, _, _, _⟩) ?_ (.tmp 1) ?_ w.heap.size ?_ a0 v0 l0 hu ?_); (· rfl); (· rfl); (· rfl); simp only [Act.put, List.setIfInBounds_toArray, List.set_cons_zero, List.set_cons_succ])
  refine (C1.out _ (HS.out.later HB4.out)).mono ?_
  rintro e X5 ⟨qv, rfl, hst, hn, hB⟩
  have HB5 := Lib.hid (below_trans HB4.out hB)
  have HT := Lib.hid hst
  clear hB HB4 hu hst hn C1
  go_wp2_with fail
  refine (C2.out qv _ (HM.out.later HB5.out) HT.out).mono ?_
  rintro e X6 ⟨rfl, hB⟩
  have HB6 := Lib.hid (below_trans HB5.out hB)
  clear hB HB5 HT C2
  have HUx := Lib.hid (HU.out.later HB6.out)
  have c0 := HUx.out.cell 0
  rw [(cU_at a0 v0 l0).1, HNe.out] at c0
  have c18 := HUx.out.cell 18
  rw [(cU_at a0 v0 l0).2.2.2.2.2.2.2.2.1, HGe.out] at c18
  have c20 := HUx.out.cell 20
  rw [(cU_at a0 v0 l0).2.2.2.2.2.2.2.2.2.2, HQe.out] at c20
  have L0 := Lib.hid (show Q9 X6 w.heap.size 0 N from by have := q_sch HUx.out l0; rwa [HNe.out] at this)
  have hR1 := HR1.out
  have hG1 := HG1.out
  obtain ⟨p1, p2, p3⟩ := HP.out
  have q1 : decide (N.size < S.size) = true := decide_eq_true p1
  have q2 : (((S[N.size]).toNat : Int) == 58) = true := by rw [p3]; rfl
  have HP2 := Lib.hid p2
  clear HP HU HN1 p2 p3 HSB Hb0 HF0 HNe HGe HQe
  cases q
  · have HE := Lib.hid (HZ.out rfl)
    clear HY HZ
    go_wp2_with fail
    rw [HE.out]
    have p2 := HP2.out
    refine Ascii.wp_region_quiet_below (by kernel_rfl) (by kernel_rfl) ?_
    iterate 14 (go_big_quiet_step ((intro _; rfl)))
    ((go_big_quiet_want; (with_reducible refine Host.quiet_load (o := ⟨some 54, .load 9 (.tmp 53), _, _, _, _⟩) 9 (.tmp 53) ?_ _ ?_ _ L0.out ?_); (· rfl); (· rfl)); go_big_quiet_on; simp only [Act.put, List.setIfInBounds_toArray, List.set_cons_succ, List.set_cons_zero])
    repeat (go_big_quiet_step ((intro _; rfl)))
    refine wpQuiet_nil ?_
    intro z hz
    go_wp2
    go_ret
    exact ⟨rfl, HB0.out.trans ((below_trans HB6.out hz).mono HB0.out.size)⟩
  · have HE := Lib.hid (HY.out rfl)
    clear HY HZ
    go_wp2_with fail
    rw [HE.out]
    have p2 := HP2.out
    refine Ascii.wp_region_quiet_below (by kernel_rfl) (by kernel_rfl) ?_
    iterate 14 (go_big_quiet_step ((intro _; rfl)))
    ((go_big_quiet_want; (with_reducible refine Host.quiet_load (o := ⟨some 54, .load 9 (.tmp 53), _, _, _, _⟩) 9 (.tmp 53) ?_ _ ?_ _ L0.out ?_); (· rfl); (· rfl)); go_big_quiet_on; simp only [Act.put, List.setIfInBounds_toArray, List.set_cons_succ, List.set_cons_zero])
    repeat (go_big_quiet_step ((intro _; rfl)))
    refine wpQuiet_nil ?_
    intro z hz
    go_wp2
    go_ret
    exact ⟨rfl, HB0.out.trans ((below_trans HB6.out hz).mono HB0.out.size)⟩

/-! ### The row's step -/
theorem reads (os : Os) {H : Type} (enc : TypeId × Value → H) : (DataW.whole enc Tryz.prog ((Card.laidWorld os).forCall (fun _ _ => 0) ⟨#[], #[.agg #[.string ByteArray.empty, .string ByteArray.empty, .string ByteArray.empty, .int .i64 0, .string ByteArray.empty, .int .i64 0, .int .i64 0, .int .i64 0, .int .i64 0, .int .i64 0, .int .i64 0, .int .i64 0, .int .i64 0, .int .i64 0, .int .i64 0, .slice none 0 0, .string ByteArray.empty, .string ByteArray.empty, .string ByteArray.empty, .bool false, .bool false]], []⟩).memory Tryz.f8.params.toList Rows.showPartsSpec.vars false (#[.agg #[.string ByteArray.empty, .string ByteArray.empty, .string ByteArray.empty, .int .i64 0, .string ByteArray.empty, .int .i64 0, .int .i64 0, .int .i64 0, .int .i64 0, .int .i64 0, .int .i64 0, .int .i64 0, .int .i64 0, .int .i64 0, .int .i64 0, .slice none 0 0, .string ByteArray.empty, .string ByteArray.empty, .string ByteArray.empty, .bool false, .bool false]] : Array Value).toList 8).map (fun x => (x.1, x.2.1)) = some ([.agg [.lit (.string []), .lit (.string []), .lit (.string []), .agg [.lit (.int .i64 0), .lit (.string []), .lit (.int .i64 0), .agg [.lit (.int .i64 0), .lit (.int .i64 0), .lit (.int .i64 0), .lit (.int .i64 0), .lit (.int .i64 0), .lit (.int .i64 0), .lit (.int .i64 0), .lit (.int .i64 0)]], .lit (.int .i64 0), .nil, .lit (.string []), .lit (.string []), .lit (.string []), .lit (.bool false), .lit (.bool false)]], []) := by kernel_rfl
set_option maxRecDepth 100000 in
theorem lifted (os : Os) (started : os.Started) (H : Type) (enc : TypeId × Value → H) (F : Stop.Interp) :
    ReturnsInHanded {} Tryz.checked os 8 .any ((OpenSpec.ofChange Rows.showPartsSpec).preRow enc Tryz.prog Tryz.f8 Rows.showPartsRow.domain false Rows.showPartsRow.laid) (((OpenSpec.ofChange Rows.showPartsSpec).at F).post enc Tryz.prog Tryz.f8 false true false false) := by
  obtain ⟨⟨x1, x2, x3⟩, hx, hx1⟩ := Option.map_eq_some_iff.1 (reads os enc)
  simp only [Prod.mk.injEq] at hx1
  obtain ⟨rfl, rfl⟩ := hx1
  refine returnsInHanded_of_row (C := Tryz.checked) (s := OpenSpec.ofChange Rows.showPartsSpec) own started (by kernel_rfl) Tryz.func8
    (witness_row_at (enc := enc) (C := Tryz.checked) false (Card.laidWorld os) #[.agg #[.string ByteArray.empty, .string ByteArray.empty, .string ByteArray.empty, .int .i64 0, .string ByteArray.empty, .int .i64 0, .int .i64 0, .int .i64 0, .int .i64 0, .int .i64 0, .int .i64 0, .int .i64 0, .int .i64 0, .int .i64 0, .int .i64 0, .slice none 0 0, .string ByteArray.empty, .string ByteArray.empty, .string ByteArray.empty, .bool false, .bool false]] rfl (by kernel_rfl) (by kernel_rfl) (by kernel_rfl)
      (OpenSpec.preRow_of_cond 8 hx (by kernel_rfl) (fun k hk => by cases hk) (by kernel_rfl) (Card.laid_met os _))) ?_
  intro W base args ds gs before hval0 hW _ _ _ hL hsh _
  obtain ⟨m, hmax⟩ := Card.maxLen_int hsh
  have hm : Six.At m W := ⟨hmax, Six.tab_of hL⟩
  have hval : ∀ (j : Nat) t v, Tryz.f8.params[j]? = some t → args[j]? = some v → Value.okWide Tryz.prog W .any base t v := hval0
  have hW' := hW
  obtain ⟨p, q, hA0, hV, rfl, hfz, hnd⟩ := hW
  have hA : DataW.TrodAll enc Tryz.prog W 0 (fun _ => true) true Tryz.f8.params.toList args.toList ds p := hA0
  rw [Tryz.params8] at hA hval
  obtain ⟨v0, vs0, d0, ds0, p0, q0, hargs0, rfl, rfl, t0, r0⟩ := trodAll_cons hA
  obtain ⟨rfl, rfl, rfl⟩ := trodAll_nil r0
  obtain rfl : args = #[v0] := by cases args; simp_all
  obtain ⟨rfl, rfl⟩ := trodVars_none hV
  have k0 := t0
  have lt0 : ∀ x ∈ p0, x.block < W.heap.size := by obtain ⟨m, hm⟩ := k0; exact DataW.trod_lt m _ _ _ hm
  obtain ⟨a0, pv0, l0, rfl, z0, w0⟩ := Url.open_url (hval 0 27 v0 rfl rfl) t0
  clear hA0 hval0
  simp only [List.append_nil] at hW'
  refine (walk a0 pv0 l0  m W hm z0 w0).mono fun e W' ⟨he, bel⟩ => ?_
  subst he
  exact ⟨_, rfl, _, _, _, [], _, [], hW', trodAll_mk1 (shut_bool Tryz.underlying4 _), (trodAll_cons_mk (Below.trod laidOut (by kernel_rfl) (of_decide_eq_true (by kernel_rfl)) k0 bel lt0) trodAll_mk0), rfl, bel.frame _, fun h => by cases h⟩

theorem said : Rows.showPartsRow.holds Tryz.pinned (OpenSpec.ofChange Rows.showPartsSpec) :=
  OpenClaim.holds_of_cond 8 Tryz.f8 rfl rfl rfl rfl rfl rfl rfl ⟨rfl, rfl, rfl, rfl, rfl⟩ rfl rfl rfl rfl rfl (by kernel_rfl) Tryz.func8 (by kernel_rfl)
    (of_decide_eq_true (by kernel_rfl)) (by unfold Func.isWrapper; first | (rw [if_pos (by decide +kernel)]; kernel_rfl) | (rw [if_neg (by decide +kernel)]; exact ⟨rfl, rfl⟩))
    (fun os started H enc _ F => by rw [OpenClaim.pre_eq_preRow]; exact lifted os started H enc F)

/-- No parameter wants a stand-in; the program's own looks are on. -/
theorem plain (f : FuncId) (fn : Func) (hf : Tryz.pinned.checked.prog.funcNamed Rows.showPartsRow.func = some f) (hfn : Tryz.pinned.checked.prog.funcs[f]? = some fn) :
    true = Tryz.pinned.checked.prog.looks [] ∧ ∀ (j : Nat) t, fn.params[j]? = some t → Tryz.pinned.checked.prog.wantsStandIn t = false := by
  obtain rfl : f = 8 := Option.some.inj ((show Tryz.prog.funcNamed Rows.showPartsRow.func = some 8 by kernel_rfl).symm.trans hf) |>.symm
  obtain rfl : fn = Tryz.f8 := (Option.some.inj (Tryz.func8.symm.trans hfn)).symm
  refine ⟨by kernel_rfl, fun j t ht => ?_⟩
  rw [Tryz.params8] at ht
  obtain rfl : t = 27 := by simpa using Array.mem_of_getElem? ht
  · exact (show Tryz.prog.wantsStandIn 27 = false by kernel_rfl)

/-- The statement: the card. -/
theorem proved : Rows.ShowPartsCardSaid :=
  Claim7.holds_tied_plain_at .later [] _ _ _ _ said (fun _ h => by cases h) (by kernel_rfl) (fun _ h => by cases h) showParts_row_tie rfl ⟨rfl, rfl⟩ (by kernel_rfl) rfl plain (by kernel_rfl)
#print axioms proved
end Go.Proofs.YtkjkcgbmfglihaaGreatDoor.showParts
