/-
  For every input the law PolicyOrder (P15.3, P15.4) answers true, and its arguments read as before: each policy is stricter than itself and than what one that it is stricter than is stricter than, the first than all, all than the last, and two that are stricter than one another allow the same. Condition: package policy's table of levels lies as its text lays it (listed by the card).
-/
import Derived.Test.YtbnbdijgdokhhaaDoorCards
import Derived.Test.YtbnbdijgdokhhaaDoorTie
import Derived.WalkKit
import Derived.ProofKit
import Derived.OpenShut
import Derived.ShutString
import Derived.ChangeOld
import Derived.Below
import Derived.SizedLaws
import Derived.Test.YtbnbdijgdokhhaaDoorPlRef
import Derived.Test.YtbnbdijgdokhhaaDoorLaid
namespace Go.Proofs.YtbnbdijgdokhhaaDoor.policyOrder
open Go.ChangeShapes Go.WideShapes Go.ChangeAt Go.RowKit
open Go.ChangeMaps (open_string shut_string)
open Go.Shelf
open Go.Proofs.YtbnbdijgdokhhaaDoor.Policy
set_option linter.unusedSimpArgs false
set_option linter.unusedVariables false

theorem own : ownKnob Tryd.prog.godebug = none := by kernel_rfl
theorem laidOut : laidOutB Tryd.prog = true := by kernel_rfl

set_option maxRecDepth 100000
set_option maxHeartbeats 16000000 in
theorem walk (a0 : Int) (a1 : Int) (a2 : Int) (a3 : Bool) (a4 : Bool) (w0 : (Lit.int .i64 a0).wf = true) (w1 : (Lit.int .i64 a1).wf = true) (w2 : (Lit.int .i64 a2).wf = true) (w : World) (hm : TabAt w) :
    Calls Tryd.prog 5 #[.int .i64 a0, .int .i64 a1, .int .i64 a2, .bool a3, .bool a4] w fun e w' => e = .returned (.bool true) ∧ Below w.heap.size w w' := by
  have HT0 := Lib.hid hm
  clear hm w0 w1 w2
  have cA := fun u hu => strict_any a0 a1 u hu
  have cB := fun u hu => strict_any a1 a2 u hu
  have cC := fun u hu => strict_any a1 a0 u hu
  have cD := fun u hu => strict_any a0 a0 u hu
  rw [strict_self] at cD
  have cE := fun u hu => strict_any a0 a2 u hu
  have cF := fun u hu => strict_any 1 a0 u hu
  rw [strict_never] at cF
  have cG := fun u hu => strict_any a0 8 u hu
  rw [strict_all] at cG
  have cX := fun u hu => allow_any a0 a3 a4 u hu
  have cY := fun u hu => allow_any a1 a3 a4 u hu
  have h1 := strict_trans a0 a1 a2
  have h2 := strict_less a0 a1 a3 a4
  have h3 := strict_both a0 a1 a3 a4
  generalize allowI a0 a3 a4 = x at *
  generalize allowI a1 a3 a4 = y at *
  generalize strictB a0 a1 = p at *
  generalize strictB a1 a2 = q at *
  generalize strictB a1 a0 = r at *
  generalize strictB a0 a2 = t at *
  go_enter Tryd.func5, Tryd.ntmps5
  go_wp2_with fail
  refine (awake_calls _ HT0.out).mono ?_
  rintro e X1 ⟨rfl, hB⟩
  have HT1 := Lib.hid (HT0.out.later hB)
  have HB1 := Lib.hid hB
  clear hB HT0
  cases p
  · clear h1 h2 h3
    go_wp2_with fail
    refine (cA _ HT1.out).mono ?_
    rintro e X2 ⟨rfl, hB⟩
    have HT2 := Lib.hid (HT1.out.later hB)
    have HB2 := Lib.hid (HB1.out.trans (hB.mono HB1.out.size))
    clear HB1
    clear hB HT1
    go_wp2_with fail
    refine (cB _ HT2.out).mono ?_
    rintro e X3 ⟨rfl, hB⟩
    have HT3 := Lib.hid (HT2.out.later hB)
    have HB3 := Lib.hid (HB2.out.trans (hB.mono HB2.out.size))
    clear HB2
    clear hB HT2
    go_wp2_with fail
    refine (cD _ HT3.out).mono ?_
    rintro e X4 ⟨rfl, hB⟩
    have HT4 := Lib.hid (HT3.out.later hB)
    have HB4 := Lib.hid (HB3.out.trans (hB.mono HB3.out.size))
    clear HB3
    clear hB HT3
    go_wp2_with fail
    refine (cF _ HT4.out).mono ?_
    rintro e X5 ⟨rfl, hB⟩
    have HT5 := Lib.hid (HT4.out.later hB)
    have HB5 := Lib.hid (HB4.out.trans (hB.mono HB4.out.size))
    clear HB4
    clear hB HT4
    go_wp2_with fail
    refine (cG _ HT5.out).mono ?_
    rintro e X6 ⟨rfl, hB⟩
    have HT6 := Lib.hid (HT5.out.later hB)
    have HB6 := Lib.hid (HB5.out.trans (hB.mono HB5.out.size))
    clear HB5
    clear hB HT5
    go_wp2
    go_ret
    exact ⟨rfl, HB6.out⟩
  have q1 := decide_eq_true (h2 rfl)
  clear h2
  cases q
  · clear h1
    cases r
    · clear h3
      go_wp2_with fail
      refine (cA _ HT1.out).mono ?_
      rintro e X2 ⟨rfl, hB⟩
      have HT2 := Lib.hid (HT1.out.later hB)
      have HB2 := Lib.hid (HB1.out.trans (hB.mono HB1.out.size))
      clear HB1
      clear hB HT1
      go_wp2_with fail
      refine (cB _ HT2.out).mono ?_
      rintro e X3 ⟨rfl, hB⟩
      have HT3 := Lib.hid (HT2.out.later hB)
      have HB3 := Lib.hid (HB2.out.trans (hB.mono HB2.out.size))
      clear HB2
      clear hB HT2
      go_wp2_with fail
      refine (cC _ HT3.out).mono ?_
      rintro e X4 ⟨rfl, hB⟩
      have HT4 := Lib.hid (HT3.out.later hB)
      have HB4 := Lib.hid (HB3.out.trans (hB.mono HB3.out.size))
      clear HB3
      clear hB HT3
      go_wp2_with fail
      refine (cD _ HT4.out).mono ?_
      rintro e X5 ⟨rfl, hB⟩
      have HT5 := Lib.hid (HT4.out.later hB)
      have HB5 := Lib.hid (HB4.out.trans (hB.mono HB4.out.size))
      clear HB4
      clear hB HT4
      go_wp2_with fail
      refine (cF _ HT5.out).mono ?_
      rintro e X6 ⟨rfl, hB⟩
      have HT6 := Lib.hid (HT5.out.later hB)
      have HB6 := Lib.hid (HB5.out.trans (hB.mono HB5.out.size))
      clear HB5
      clear hB HT5
      go_wp2_with fail
      refine (cG _ HT6.out).mono ?_
      rintro e X7 ⟨rfl, hB⟩
      have HT7 := Lib.hid (HT6.out.later hB)
      have HB7 := Lib.hid (HB6.out.trans (hB.mono HB6.out.size))
      clear HB6
      clear hB HT6
      go_wp2_with fail
      refine (cX _ HT7.out).mono ?_
      rintro e X8 ⟨rfl, hB⟩
      have HT8 := Lib.hid (HT7.out.later hB)
      have HB8 := Lib.hid (HB7.out.trans (hB.mono HB7.out.size))
      clear HB7
      clear hB HT7
      go_wp2_with fail
      refine (cY _ HT8.out).mono ?_
      rintro e X9 ⟨rfl, hB⟩
      have HT9 := Lib.hid (HT8.out.later hB)
      have HB9 := Lib.hid (HB8.out.trans (hB.mono HB8.out.size))
      clear HB8
      clear hB HT8
      go_wp2
      go_ret
      exact ⟨rfl, HB9.out⟩
    obtain rfl := h3 rfl rfl
    clear h3
    go_wp2_with fail
    refine (cA _ HT1.out).mono ?_
    rintro e X2 ⟨rfl, hB⟩
    have HT2 := Lib.hid (HT1.out.later hB)
    have HB2 := Lib.hid (HB1.out.trans (hB.mono HB1.out.size))
    clear HB1
    clear hB HT1
    go_wp2_with fail
    refine (cB _ HT2.out).mono ?_
    rintro e X3 ⟨rfl, hB⟩
    have HT3 := Lib.hid (HT2.out.later hB)
    have HB3 := Lib.hid (HB2.out.trans (hB.mono HB2.out.size))
    clear HB2
    clear hB HT2
    go_wp2_with fail
    refine (cC _ HT3.out).mono ?_
    rintro e X4 ⟨rfl, hB⟩
    have HT4 := Lib.hid (HT3.out.later hB)
    have HB4 := Lib.hid (HB3.out.trans (hB.mono HB3.out.size))
    clear HB3
    clear hB HT3
    go_wp2_with fail
    refine (cD _ HT4.out).mono ?_
    rintro e X5 ⟨rfl, hB⟩
    have HT5 := Lib.hid (HT4.out.later hB)
    have HB5 := Lib.hid (HB4.out.trans (hB.mono HB4.out.size))
    clear HB4
    clear hB HT4
    go_wp2_with fail
    refine (cF _ HT5.out).mono ?_
    rintro e X6 ⟨rfl, hB⟩
    have HT6 := Lib.hid (HT5.out.later hB)
    have HB6 := Lib.hid (HB5.out.trans (hB.mono HB5.out.size))
    clear HB5
    clear hB HT5
    go_wp2_with fail
    refine (cG _ HT6.out).mono ?_
    rintro e X7 ⟨rfl, hB⟩
    have HT7 := Lib.hid (HT6.out.later hB)
    have HB7 := Lib.hid (HB6.out.trans (hB.mono HB6.out.size))
    clear HB6
    clear hB HT6
    go_wp2_with fail
    refine (cX _ HT7.out).mono ?_
    rintro e X8 ⟨rfl, hB⟩
    have HT8 := Lib.hid (HT7.out.later hB)
    have HB8 := Lib.hid (HB7.out.trans (hB.mono HB7.out.size))
    clear HB7
    clear hB HT7
    go_wp2_with fail
    refine (cY _ HT8.out).mono ?_
    rintro e X9 ⟨rfl, hB⟩
    have HT9 := Lib.hid (HT8.out.later hB)
    have HB9 := Lib.hid (HB8.out.trans (hB.mono HB8.out.size))
    clear HB8
    clear hB HT8
    go_wp2_with fail
    refine (cX _ HT9.out).mono ?_
    rintro e X10 ⟨rfl, hB⟩
    have HT10 := Lib.hid (HT9.out.later hB)
    have HB10 := Lib.hid (HB9.out.trans (hB.mono HB9.out.size))
    clear HB9
    clear hB HT9
    go_wp2_with fail
    refine (cY _ HT10.out).mono ?_
    rintro e X11 ⟨rfl, hB⟩
    have HT11 := Lib.hid (HT10.out.later hB)
    have HB11 := Lib.hid (HB10.out.trans (hB.mono HB10.out.size))
    clear HB10
    clear hB HT10
    go_wp2
    go_ret
    exact ⟨rfl, HB11.out⟩
  obtain rfl := h1 rfl rfl
  clear h1
  cases r
  · clear h3
    go_wp2_with fail
    refine (cA _ HT1.out).mono ?_
    rintro e X2 ⟨rfl, hB⟩
    have HT2 := Lib.hid (HT1.out.later hB)
    have HB2 := Lib.hid (HB1.out.trans (hB.mono HB1.out.size))
    clear HB1
    clear hB HT1
    go_wp2_with fail
    refine (cB _ HT2.out).mono ?_
    rintro e X3 ⟨rfl, hB⟩
    have HT3 := Lib.hid (HT2.out.later hB)
    have HB3 := Lib.hid (HB2.out.trans (hB.mono HB2.out.size))
    clear HB2
    clear hB HT2
    go_wp2_with fail
    refine (cC _ HT3.out).mono ?_
    rintro e X4 ⟨rfl, hB⟩
    have HT4 := Lib.hid (HT3.out.later hB)
    have HB4 := Lib.hid (HB3.out.trans (hB.mono HB3.out.size))
    clear HB3
    clear hB HT3
    go_wp2_with fail
    refine (cD _ HT4.out).mono ?_
    rintro e X5 ⟨rfl, hB⟩
    have HT5 := Lib.hid (HT4.out.later hB)
    have HB5 := Lib.hid (HB4.out.trans (hB.mono HB4.out.size))
    clear HB4
    clear hB HT4
    go_wp2_with fail
    refine (cE _ HT5.out).mono ?_
    rintro e X6 ⟨rfl, hB⟩
    have HT6 := Lib.hid (HT5.out.later hB)
    have HB6 := Lib.hid (HB5.out.trans (hB.mono HB5.out.size))
    clear HB5
    clear hB HT5
    go_wp2_with fail
    refine (cF _ HT6.out).mono ?_
    rintro e X7 ⟨rfl, hB⟩
    have HT7 := Lib.hid (HT6.out.later hB)
    have HB7 := Lib.hid (HB6.out.trans (hB.mono HB6.out.size))
    clear HB6
    clear hB HT6
    go_wp2_with fail
    refine (cG _ HT7.out).mono ?_
    rintro e X8 ⟨rfl, hB⟩
    have HT8 := Lib.hid (HT7.out.later hB)
    have HB8 := Lib.hid (HB7.out.trans (hB.mono HB7.out.size))
    clear HB7
    clear hB HT7
    go_wp2_with fail
    refine (cX _ HT8.out).mono ?_
    rintro e X9 ⟨rfl, hB⟩
    have HT9 := Lib.hid (HT8.out.later hB)
    have HB9 := Lib.hid (HB8.out.trans (hB.mono HB8.out.size))
    clear HB8
    clear hB HT8
    go_wp2_with fail
    refine (cY _ HT9.out).mono ?_
    rintro e X10 ⟨rfl, hB⟩
    have HT10 := Lib.hid (HT9.out.later hB)
    have HB10 := Lib.hid (HB9.out.trans (hB.mono HB9.out.size))
    clear HB9
    clear hB HT9
    go_wp2
    go_ret
    exact ⟨rfl, HB10.out⟩
  obtain rfl := h3 rfl rfl
  clear h3
  go_wp2_with fail
  refine (cA _ HT1.out).mono ?_
  rintro e X2 ⟨rfl, hB⟩
  have HT2 := Lib.hid (HT1.out.later hB)
  have HB2 := Lib.hid (HB1.out.trans (hB.mono HB1.out.size))
  clear HB1
  clear hB HT1
  go_wp2_with fail
  refine (cB _ HT2.out).mono ?_
  rintro e X3 ⟨rfl, hB⟩
  have HT3 := Lib.hid (HT2.out.later hB)
  have HB3 := Lib.hid (HB2.out.trans (hB.mono HB2.out.size))
  clear HB2
  clear hB HT2
  go_wp2_with fail
  refine (cC _ HT3.out).mono ?_
  rintro e X4 ⟨rfl, hB⟩
  have HT4 := Lib.hid (HT3.out.later hB)
  have HB4 := Lib.hid (HB3.out.trans (hB.mono HB3.out.size))
  clear HB3
  clear hB HT3
  go_wp2_with fail
  refine (cD _ HT4.out).mono ?_
  rintro e X5 ⟨rfl, hB⟩
  have HT5 := Lib.hid (HT4.out.later hB)
  have HB5 := Lib.hid (HB4.out.trans (hB.mono HB4.out.size))
  clear HB4
  clear hB HT4
  go_wp2_with fail
  refine (cE _ HT5.out).mono ?_
  rintro e X6 ⟨rfl, hB⟩
  have HT6 := Lib.hid (HT5.out.later hB)
  have HB6 := Lib.hid (HB5.out.trans (hB.mono HB5.out.size))
  clear HB5
  clear hB HT5
  go_wp2_with fail
  refine (cF _ HT6.out).mono ?_
  rintro e X7 ⟨rfl, hB⟩
  have HT7 := Lib.hid (HT6.out.later hB)
  have HB7 := Lib.hid (HB6.out.trans (hB.mono HB6.out.size))
  clear HB6
  clear hB HT6
  go_wp2_with fail
  refine (cG _ HT7.out).mono ?_
  rintro e X8 ⟨rfl, hB⟩
  have HT8 := Lib.hid (HT7.out.later hB)
  have HB8 := Lib.hid (HB7.out.trans (hB.mono HB7.out.size))
  clear HB7
  clear hB HT7
  go_wp2_with fail
  refine (cX _ HT8.out).mono ?_
  rintro e X9 ⟨rfl, hB⟩
  have HT9 := Lib.hid (HT8.out.later hB)
  have HB9 := Lib.hid (HB8.out.trans (hB.mono HB8.out.size))
  clear HB8
  clear hB HT8
  go_wp2_with fail
  refine (cY _ HT9.out).mono ?_
  rintro e X10 ⟨rfl, hB⟩
  have HT10 := Lib.hid (HT9.out.later hB)
  have HB10 := Lib.hid (HB9.out.trans (hB.mono HB9.out.size))
  clear HB9
  clear hB HT9
  go_wp2_with fail
  refine (cX _ HT10.out).mono ?_
  rintro e X11 ⟨rfl, hB⟩
  have HT11 := Lib.hid (HT10.out.later hB)
  have HB11 := Lib.hid (HB10.out.trans (hB.mono HB10.out.size))
  clear HB10
  clear hB HT10
  go_wp2_with fail
  refine (cY _ HT11.out).mono ?_
  rintro e X12 ⟨rfl, hB⟩
  have HT12 := Lib.hid (HT11.out.later hB)
  have HB12 := Lib.hid (HB11.out.trans (hB.mono HB11.out.size))
  clear HB11
  clear hB HT11
  go_wp2
  go_ret
  exact ⟨rfl, HB12.out⟩

/-! ### The row's step -/
theorem reads (os : Os) {H : Type} (enc : TypeId × Value → H) : (DataW.whole enc Tryd.prog ((Card.laidWorld os).forCall (fun _ _ => 0) ⟨#[], #[.int .i64 0, .int .i64 0, .int .i64 0, .bool false, .bool false], []⟩).memory Tryd.f5.params.toList Rows.policyOrderSpec.vars false (#[.int .i64 0, .int .i64 0, .int .i64 0, .bool false, .bool false] : Array Value).toList 8).map (fun x => (x.1, x.2.1)) = some ([.lit (.int .i64 0), .lit (.int .i64 0), .lit (.int .i64 0), .lit (.bool false), .lit (.bool false)], []) := by kernel_rfl
set_option maxRecDepth 100000 in
theorem lifted (os : Os) (started : os.Started) (H : Type) (enc : TypeId × Value → H) (F : Stop.Interp) :
    ReturnsInHanded {} Tryd.checked os 5 .any ((OpenSpec.ofChange Rows.policyOrderSpec).preRow enc Tryd.prog Tryd.f5 Rows.policyOrderRow.domain false Rows.policyOrderRow.laid) (((OpenSpec.ofChange Rows.policyOrderSpec).at F).post enc Tryd.prog Tryd.f5 false true false false) := by
  obtain ⟨⟨x1, x2, x3⟩, hx, hx1⟩ := Option.map_eq_some_iff.1 (reads os enc)
  simp only [Prod.mk.injEq] at hx1
  obtain ⟨rfl, rfl⟩ := hx1
  refine returnsInHanded_of_row (C := Tryd.checked) (s := OpenSpec.ofChange Rows.policyOrderSpec) own started (by kernel_rfl) Tryd.func5
    (witness_row_at (enc := enc) (C := Tryd.checked) false (Card.laidWorld os) #[.int .i64 0, .int .i64 0, .int .i64 0, .bool false, .bool false] rfl (by kernel_rfl) (by kernel_rfl) (by kernel_rfl)
      (OpenSpec.preRow_of_cond 8 hx (by kernel_rfl) (fun k hk => by cases hk) (by kernel_rfl) (Card.laid_met os _))) ?_
  intro W base args ds gs before hval0 hW _ _ hw0 hL hsh _
  have hm := Card.tab_of hL
  have hval : ∀ (j : Nat) t v, Tryd.f5.params[j]? = some t → args[j]? = some v → Value.okWide Tryd.prog W .any base t v := hval0
  have hW' := hW
  obtain ⟨p, q, hA0, hV, rfl, hfz, hnd⟩ := hW
  have hA : DataW.TrodAll enc Tryd.prog W 0 (fun _ => true) true Tryd.f5.params.toList args.toList ds p := hA0
  rw [Tryd.params5] at hA hval
  obtain ⟨v0, vs0, d0, ds0, p0, q0, hargs0, rfl, rfl, t0, r0⟩ := trodAll_cons hA
  obtain ⟨v1, vs1, d1, ds1, p1, q1, hargs1, rfl, rfl, t1, r1⟩ := trodAll_cons r0
  obtain ⟨v2, vs2, d2, ds2, p2, q2, hargs2, rfl, rfl, t2, r2⟩ := trodAll_cons r1
  obtain ⟨v3, vs3, d3, ds3, p3, q3, hargs3, rfl, rfl, t3, r3⟩ := trodAll_cons r2
  obtain ⟨v4, vs4, d4, ds4, p4, q4, hargs4, rfl, rfl, t4, r4⟩ := trodAll_cons r3
  obtain ⟨rfl, rfl, rfl⟩ := trodAll_nil r4
  obtain rfl : args = #[v0, v1, v2, v3, v4] := by cases args; simp_all
  obtain ⟨rfl, rfl⟩ := trodVars_none hV
  obtain ⟨a0, rfl, rfl, rfl, w0⟩ := open_int Tryd.underlying3 (hval 0 3 v0 rfl rfl) t0
  obtain ⟨a1, rfl, rfl, rfl, w1⟩ := open_int Tryd.underlying3 (hval 1 3 v1 rfl rfl) t1
  obtain ⟨a2, rfl, rfl, rfl, w2⟩ := open_int Tryd.underlying3 (hval 2 3 v2 rfl rfl) t2
  obtain ⟨a3, rfl, rfl, rfl⟩ := Go.RowKit.open_bool Tryd.underlying4 (hval 3 4 v3 rfl rfl) t3
  obtain ⟨a4, rfl, rfl, rfl⟩ := Go.RowKit.open_bool Tryd.underlying4 (hval 4 4 v4 rfl rfl) t4
  clear hA0 hval0
  simp only [List.append_nil] at hW'
  refine (walk a0 a1 a2 a3 a4 w0 w1 w2 W hm ).mono fun e W' ⟨he, bel⟩ => ?_
  subst he
  exact ⟨_, rfl, _, _, _, [], _, [], hW', trodAll_mk1 (shut_bool Tryd.underlying4 _), (trodAll_cons_mk (shut_int Tryd.underlying3 w0) (trodAll_cons_mk (shut_int Tryd.underlying3 w1) (trodAll_cons_mk (shut_int Tryd.underlying3 w2) (trodAll_cons_mk (shut_bool Tryd.underlying4 a3) (trodAll_cons_mk (shut_bool Tryd.underlying4 a4) trodAll_mk0))))), rfl, bel.frame _, fun h => by cases h⟩

theorem said : Rows.policyOrderRow.holds Tryd.pinned (OpenSpec.ofChange Rows.policyOrderSpec) :=
  OpenClaim.holds_of_cond 5 Tryd.f5 rfl rfl rfl rfl rfl rfl rfl ⟨rfl, rfl, rfl, rfl, rfl⟩ rfl rfl rfl rfl rfl (by kernel_rfl) Tryd.func5 (by kernel_rfl)
    (of_decide_eq_true (by kernel_rfl)) (by unfold Func.isWrapper; first | (rw [if_pos (by decide +kernel)]; kernel_rfl) | (rw [if_neg (by decide +kernel)]; exact ⟨rfl, rfl⟩))
    (fun os started H enc _ F => by rw [OpenClaim.pre_eq_preRow]; exact lifted os started H enc F)

/-- No parameter wants a stand-in; the program's own looks are off. -/
theorem plain (f : FuncId) (fn : Func) (hf : Tryd.pinned.checked.prog.funcNamed Rows.policyOrderRow.func = some f) (hfn : Tryd.pinned.checked.prog.funcs[f]? = some fn) :
    false = Tryd.pinned.checked.prog.looks [] ∧ ∀ (j : Nat) t, fn.params[j]? = some t → Tryd.pinned.checked.prog.wantsStandIn t = false := by
  obtain rfl : f = 5 := Option.some.inj ((show Tryd.prog.funcNamed Rows.policyOrderRow.func = some 5 by kernel_rfl).symm.trans hf) |>.symm
  obtain rfl : fn = Tryd.f5 := (Option.some.inj (Tryd.func5.symm.trans hfn)).symm
  refine ⟨by kernel_rfl, fun j t ht => ?_⟩
  rw [Tryd.params5] at ht
  obtain rfl | rfl : t = 3 ∨ t = 4 := by simpa using Array.mem_of_getElem? ht
  · exact (show Tryd.prog.wantsStandIn 3 = false by kernel_rfl)
  · exact (show Tryd.prog.wantsStandIn 4 = false by kernel_rfl)

/-- The statement: the card. -/
theorem proved : Rows.PolicyOrderCardSaid :=
  Claim7.holds_tied_plain_at .later [] _ _ _ _ said (fun _ h => by cases h) (by kernel_rfl) (fun _ h => by cases h) policyOrder_row_tie rfl ⟨rfl, rfl⟩ (by kernel_rfl) rfl plain (by kernel_rfl)
#print axioms proved
end Go.Proofs.YtbnbdijgdokhhaaDoor.policyOrder
