/-
  HeadTells of layer 13 returns true for every input and leaves its arguments as they were: any text is a name, a value, and has the fields, or none, and any fields have the values of a name, are with one set, and without some, and the same, or not, as the document says. Conditions: the two tables of unicode/utf8 lie as their texts lay them (listed by the card), internal/bytealg.MaxLen holds any int.
-/
import Derived.Test.YtagmmdnfbjgmcaaDoorCards
import Derived.Test.YtagmmdnfbjgmcaaDoorTie
import Derived.WalkKit
import Derived.ProofKit
import Derived.OpenShut
import Derived.ShutString
import Derived.ChangeOld
import Derived.Below
import Derived.SizedLaws
import Derived.Test.YtagmmdnfbjgmcaaDoorHdRefC
import Derived.Test.YtagmmdnfbjgmcaaDoorLaid
namespace Go.Proofs.YtagmmdnfbjgmcaaDoor.headTells
open Go.ChangeShapes Go.WideShapes Go.ChangeAt Go.RowKit
open Go.ChangeMaps (open_string shut_string)
open Go.Shelf
open Go.Proofs.YtagmmdnfbjgmcaaDoor.Head
set_option linter.unusedSimpArgs false
set_option linter.unusedVariables false

theorem own : ownKnob Tryd.prog.godebug = none := by kernel_rfl
theorem laidOut : laidOutB Tryd.prog = true := by kernel_rfl

set_option maxRecDepth 100000
set_option maxHeartbeats 16000000 in
theorem walk (a0 : ByteArray) (v1 : Value) (l1 : List F) (v2 : Value) (l2 : List F) (a3 : ByteArray) (a4 : ByteArray) (v5 : Value) (l5 : List (List UInt8)) (w0 : a0.size ≤ maxLen) (w3 : a3.size ≤ maxLen) (w4 : a4.size ≤ maxLen) (m : Int) (w : World) (hm : Path.MaxAt m w) (w1 : Flds w v1 l1) (w2 : Flds w v2 l2) (w5 : Path.Strs w v5 l5) (wl5 : ∀ t ∈ l5, t.length ≤ 140737488351232) :
    Calls Tryd.prog 3 #[.string a0, v1, v2, .string a3, .string a4, v5] w fun e w' => e = .returned (.bool true) ∧ Below w.heap.size w w' := by
  have HM0 := Lib.hid hm
  have HF1_0 := Lib.hid w1
  obtain ⟨ax1, cx1, rfl, -⟩ := w1
  have HF2_0 := Lib.hid w2
  obtain ⟨ax2, cx2, rfl, -⟩ := w2
  have HF5_0 := Lib.hid w5
  obtain ⟨ax5, cx5, rfl, -⟩ := w5
  clear hm
  go_enter Tryd.func3, Tryd.ntmps3
  go_wp2_with fail
  refine (awake_calls m w HM0.out).mono ?_
  rintro e X1 ⟨rfl, hB⟩
  have HB1 := Lib.hid (hB)
  have HM1 := Lib.hid (HM0.out.later hB)
  have HF1_1 := Lib.hid (HF1_0.out.later hB)
  have HF2_1 := Lib.hid (HF2_0.out.later hB)
  have HF5_1 := Lib.hid (HF5_0.out.later hB)
  clear HM0 HF1_0 HF2_0 HF5_0
  clear hB
  go_wp2_with fail
  refine (few_any _ l1 X1 HF1_1.out).mono ?_
  rintro e X' ⟨rfl, rfl⟩
  obtain ⟨b1, hb1⟩ : ∃ b, fewF l1 = b := ⟨_, rfl⟩
  rw [hb1]
  go_wp2_with fail
  refine (few_any _ l2 X1 HF2_1.out).mono ?_
  rintro e X' ⟨rfl, rfl⟩
  obtain ⟨b2, hb2⟩ : ∃ b, fewF l2 = b := ⟨_, rfl⟩
  rw [hb2]
  cases b1
  rotate_left
  rotate_left
  · go_wp2
    go_ret
    exact ⟨rfl, HB1.out⟩
  obtain ⟨hl1, hs1⟩ := few_of hb1
  have HS1 := Lib.hid (few_big hs1)
  have HT1 := Lib.hid hs1
  clear hb1 hs1
  cases b2
  rotate_left
  rotate_left
  · go_wp2
    go_ret
    exact ⟨rfl, HB1.out⟩
  obtain ⟨hl2, hs2⟩ := few_of hb2
  have HS2 := Lib.hid (few_big hs2)
  clear hb2 hs2
  rcases Nat.lt_or_ge 600 a0.size with h0 | h0
  · have q : decide ((600 : Int) < (a0.size : Int)) = true := decide_eq_true (by omega)
    go_wp2
    go_ret
    exact ⟨rfl, HB1.out⟩
  have q0 : decide ((600 : Int) < (a0.size : Int)) = false := decide_eq_false (by omega)
  rcases Nat.lt_or_ge 300 a3.size with h3 | h3
  · have q : decide ((300 : Int) < (a3.size : Int)) = true := decide_eq_true (by omega)
    go_wp2
    go_ret
    exact ⟨rfl, HB1.out⟩
  have q3 : decide ((300 : Int) < (a3.size : Int)) = false := decide_eq_false (by omega)
  rcases Nat.lt_or_ge 300 a4.size with h4 | h4
  · have q : decide ((300 : Int) < (a4.size : Int)) = true := decide_eq_true (by omega)
    go_wp2
    go_ret
    exact ⟨rfl, HB1.out⟩
  have q4 : decide ((300 : Int) < (a4.size : Int)) = false := decide_eq_false (by omega)
  rcases Nat.lt_or_ge 10 l5.length with h5 | h5
  · have q : decide ((10 : Int) < (l5.length : Int)) = true := decide_eq_true (by omega)
    go_wp2
    go_ret
    exact ⟨rfl, HB1.out⟩
  have q5 : decide ((10 : Int) < (l5.length : Int)) = false := decide_eq_false (by omega)
  have hbb : ∀ b : Bool, (b == b) = true := fun b => by cases b <;> rfl
  go_wp2_with fail
  refine (parse_any a0 (by omega) m _ HM1.out).mono ?_
  rintro e X2 ⟨vx, rfl, hF, hB⟩
  have HB2 := Lib.hid (Ascii.below2 HB1.out hB)
  have HM2 := Lib.hid (HM1.out.later hB)
  have HF1_2 := Lib.hid (HF1_1.out.later hB)
  have HF2_2 := Lib.hid (HF2_1.out.later hB)
  have HF5_2 := Lib.hid (HF5_1.out.later hB)
  have HX_2 := Lib.hid (hF)
  clear HB1 HM1 HF1_1 HF2_1 HF5_1
  clear hB hF
  go_wp2_with fail
  refine (refParse_any a0 (by omega) _).mono ?_
  rintro e X3 ⟨vy, rfl, hF, hB⟩
  have HB3 := Lib.hid (Ascii.below2 HB2.out hB)
  have HM3 := Lib.hid (HM2.out.later hB)
  have HF1_3 := Lib.hid (HF1_2.out.later hB)
  have HF2_3 := Lib.hid (HF2_2.out.later hB)
  have HF5_3 := Lib.hid (HF5_2.out.later hB)
  have HX_3 := Lib.hid (HX_2.out.later hB)
  have HY_3 := Lib.hid (hF)
  clear HB2 HM2 HF1_2 HF2_2 HF5_2 HX_2
  clear hB hF
  go_wp2_with fail
  have cE := refSame_any _ _ _ _ X3 HX_3.out HY_3.out
  rw [show decide (parseF a0.data.toList = parseF a0.data.toList) = true from decide_eq_true rfl] at cE
  refine (cE).mono ?_
  rintro e X4 ⟨rfl, hB⟩
  clear HX_3
  clear HY_3
  have HB4 := Lib.hid (Ascii.below2 HB3.out hB)
  have HM4 := Lib.hid (HM3.out.later hB)
  have HF1_4 := Lib.hid (HF1_3.out.later hB)
  have HF2_4 := Lib.hid (HF2_3.out.later hB)
  have HF5_4 := Lib.hid (HF5_3.out.later hB)
  clear HB3 HM3 HF1_3 HF2_3 HF5_3
  clear hB 
  clear cE
  generalize parseB a0.data.toList = b1
  have hb1 := hbb b1
  go_wp2_with fail
  refine (get_any _ l1 (by omega) HS1.out a3 (by omega) _ HF1_4.out).mono ?_
  rintro e X5 ⟨rfl, hB⟩
  have HB5 := Lib.hid (Ascii.below2 HB4.out hB)
  have HM5 := Lib.hid (HM4.out.later hB)
  have HF1_5 := Lib.hid (HF1_4.out.later hB)
  have HF2_5 := Lib.hid (HF2_4.out.later hB)
  have HF5_5 := Lib.hid (HF5_4.out.later hB)
  clear HB4 HM4 HF1_4 HF2_4 HF5_4
  clear hB 
  go_wp2_with fail
  refine (refGet_any _ l1 (by omega) HT1.out a3 (by omega) _ HF1_5.out).mono ?_
  rintro e X6 ⟨rfl, hB⟩
  have HB6 := Lib.hid (Ascii.below2 HB5.out hB)
  have HM6 := Lib.hid (HM5.out.later hB)
  have HF1_6 := Lib.hid (HF1_5.out.later hB)
  have HF2_6 := Lib.hid (HF2_5.out.later hB)
  have HF5_6 := Lib.hid (HF5_5.out.later hB)
  clear HB5 HM5 HF1_5 HF2_5 HF5_5
  clear hB 
  generalize getB l1 a3.data.toList = b2
  have hb2 := hbb b2
  generalize tb (getT l1 a3.data.toList) = G
  go_wp2_with fail
  refine (all_any _ l1 (by omega) HS1.out a3 (by omega) _ HF1_6.out).mono ?_
  rintro e X7 ⟨vp, rfl, hP, hB⟩
  have HB7 := Lib.hid (Ascii.below2 HB6.out hB)
  have HM7 := Lib.hid (HM6.out.later hB)
  have HF1_7 := Lib.hid (HF1_6.out.later hB)
  have HF2_7 := Lib.hid (HF2_6.out.later hB)
  have HF5_7 := Lib.hid (HF5_6.out.later hB)
  have HP_7 := Lib.hid (hP)
  clear HB6 HM6 HF1_6 HF2_6 HF5_6
  clear hB hP
  go_wp2_with fail
  refine (refAll_any _ l1 (by omega) HS1.out a3 (by omega) _ HF1_7.out).mono ?_
  rintro e X8 ⟨vq, rfl, hQ, hB⟩
  have HB8 := Lib.hid (Ascii.below2 HB7.out hB)
  have HM8 := Lib.hid (HM7.out.later hB)
  have HF1_8 := Lib.hid (HF1_7.out.later hB)
  have HF2_8 := Lib.hid (HF2_7.out.later hB)
  have HF5_8 := Lib.hid (HF5_7.out.later hB)
  have HP_8 := Lib.hid (HP_7.out.later hB)
  have HQ_8 := Lib.hid (hQ)
  clear HB7 HM7 HF1_7 HF2_7 HF5_7 HP_7
  clear hB hQ
  go_wp2_with fail
  have cE := Path.same_any _ _ _ _ X8 HP_8.out HQ_8.out
  rw [show decide (allL l1 a3.data.toList = allL l1 a3.data.toList) = true from decide_eq_true rfl] at cE
  refine (cE).mono ?_
  rintro e X9 ⟨rfl, hB⟩
  clear HP_8
  clear HQ_8
  have HB9 := Lib.hid (Ascii.below2 HB8.out hB)
  have HM9 := Lib.hid (HM8.out.later hB)
  have HF1_9 := Lib.hid (HF1_8.out.later hB)
  have HF2_9 := Lib.hid (HF2_8.out.later hB)
  have HF5_9 := Lib.hid (HF5_8.out.later hB)
  clear HB8 HM8 HF1_8 HF2_8 HF5_8
  clear hB 
  clear cE
  go_wp2_with fail
  refine (set_any _ l1 (by omega) HS1.out a3 a4 (by omega) (by omega) _ HF1_9.out).mono ?_
  rintro e X10 ⟨vs, rfl, hP, hB⟩
  have HB10 := Lib.hid (Ascii.below2 HB9.out hB)
  have HM10 := Lib.hid (HM9.out.later hB)
  have HF1_10 := Lib.hid (HF1_9.out.later hB)
  have HF2_10 := Lib.hid (HF2_9.out.later hB)
  have HF5_10 := Lib.hid (HF5_9.out.later hB)
  have HP_10 := Lib.hid (hP)
  clear HB9 HM9 HF1_9 HF2_9 HF5_9
  clear hB hP
  go_wp2_with fail
  refine (refSet_any _ l1 (by omega) HS1.out a3 a4 (by omega) (by omega) _ HF1_10.out).mono ?_
  rintro e X11 ⟨vt, rfl, hQ, hB⟩
  have HB11 := Lib.hid (Ascii.below2 HB10.out hB)
  have HM11 := Lib.hid (HM10.out.later hB)
  have HF1_11 := Lib.hid (HF1_10.out.later hB)
  have HF2_11 := Lib.hid (HF2_10.out.later hB)
  have HF5_11 := Lib.hid (HF5_10.out.later hB)
  have HP_11 := Lib.hid (HP_10.out.later hB)
  have HQ_11 := Lib.hid (hQ)
  clear HB10 HM10 HF1_10 HF2_10 HF5_10 HP_10
  clear hB hQ
  go_wp2_with fail
  have cE := refSame_any _ _ _ _ X11 HP_11.out HQ_11.out
  rw [show decide (setL l1 a3.data.toList a4.data.toList = setL l1 a3.data.toList a4.data.toList) = true from decide_eq_true rfl] at cE
  refine (cE).mono ?_
  rintro e X12 ⟨rfl, hB⟩
  clear HP_11
  clear HQ_11
  have HB12 := Lib.hid (Ascii.below2 HB11.out hB)
  have HM12 := Lib.hid (HM11.out.later hB)
  have HF1_12 := Lib.hid (HF1_11.out.later hB)
  have HF2_12 := Lib.hid (HF2_11.out.later hB)
  have HF5_12 := Lib.hid (HF5_11.out.later hB)
  clear HB11 HM11 HF1_11 HF2_11 HF5_11
  clear hB 
  clear cE
  go_wp2_with fail
  refine (drop_any_wide _ l1 (by omega) HS1.out _ l5 (by omega) wl5 _ HF1_12.out HF5_12.out).mono ?_
  rintro e X13 ⟨vd, rfl, hP, hB⟩
  have HB13 := Lib.hid (Ascii.below2 HB12.out hB)
  have HM13 := Lib.hid (HM12.out.later hB)
  have HF1_13 := Lib.hid (HF1_12.out.later hB)
  have HF2_13 := Lib.hid (HF2_12.out.later hB)
  have HF5_13 := Lib.hid (HF5_12.out.later hB)
  have HP_13 := Lib.hid (hP)
  clear HB12 HM12 HF1_12 HF2_12 HF5_12
  clear hB hP
  go_wp2_with fail
  refine (refDrop_any _ l1 (by omega) HS1.out _ l5 (by omega) wl5 _ HF1_13.out HF5_13.out).mono ?_
  rintro e X14 ⟨vf, rfl, hQ, hB⟩
  have HB14 := Lib.hid (Ascii.below2 HB13.out hB)
  have HM14 := Lib.hid (HM13.out.later hB)
  have HF1_14 := Lib.hid (HF1_13.out.later hB)
  have HF2_14 := Lib.hid (HF2_13.out.later hB)
  have HF5_14 := Lib.hid (HF5_13.out.later hB)
  have HP_14 := Lib.hid (HP_13.out.later hB)
  have HQ_14 := Lib.hid (hQ)
  clear HB13 HM13 HF1_13 HF2_13 HF5_13 HP_13
  clear hB hQ
  go_wp2_with fail
  have cE := refSame_any _ _ _ _ X14 HP_14.out HQ_14.out
  rw [show decide (dropL l1 l5 = dropL l1 l5) = true from decide_eq_true rfl] at cE
  refine (cE).mono ?_
  rintro e X15 ⟨rfl, hB⟩
  clear HP_14
  clear HQ_14
  have HB15 := Lib.hid (Ascii.below2 HB14.out hB)
  have HM15 := Lib.hid (HM14.out.later hB)
  have HF1_15 := Lib.hid (HF1_14.out.later hB)
  have HF2_15 := Lib.hid (HF2_14.out.later hB)
  have HF5_15 := Lib.hid (HF5_14.out.later hB)
  clear HB14 HM14 HF1_14 HF2_14 HF5_14
  clear hB 
  clear cE
  go_wp2_with fail
  refine (refSame_any _ _ _ _ _ HF1_15.out HF2_15.out).mono ?_
  rintro e X16 ⟨rfl, hB⟩
  have HB16 := Lib.hid (Ascii.below2 HB15.out hB)
  have HM16 := Lib.hid (HM15.out.later hB)
  have HF1_16 := Lib.hid (HF1_15.out.later hB)
  have HF2_16 := Lib.hid (HF2_15.out.later hB)
  have HF5_16 := Lib.hid (HF5_15.out.later hB)
  clear HB15 HM15 HF1_15 HF2_15 HF5_15
  clear hB 
  have cS := fun u (h1 : Flds u (.slice ax1 l1.length cx1) l1) (h2 : Flds u (.slice ax2 l2.length cx2) l2) => same_any _ _ l1 l2 u h1 h2
  generalize decide (l1 = l2) = b3 at cS ⊢
  have hb3 := hbb b3
  have cN1 := fun u => refName_any a3 (by omega) u
  have cN2 := fun u => name_any a3 w3 u
  generalize nameB a3.data.toList = b4 at cN1 cN2
  have hb4 := hbb b4
  have cV1 := fun u => refValue_any a4 (by omega) u
  have cV2 := fun u => value_any a4 (by omega) u
  generalize valB a4.data.toList = b5 at cV1 cV2
  have hb5 := hbb b5
  go_wp2_with fail
  refine (cN1 _).mono ?_
  rintro e X17 ⟨rfl, hB⟩
  have HB17 := Lib.hid (Ascii.below2 HB16.out hB)
  have HM17 := Lib.hid (HM16.out.later hB)
  have HF1_17 := Lib.hid (HF1_16.out.later hB)
  have HF2_17 := Lib.hid (HF2_16.out.later hB)
  have HF5_17 := Lib.hid (HF5_16.out.later hB)
  clear HB16 HM16 HF1_16 HF2_16 HF5_16
  clear hB 
  go_wp2_with fail
  refine (cV1 _).mono ?_
  rintro e w' ⟨rfl, rfl⟩
  go_wp2_with fail
  refine (cS _ HF1_17.out HF2_17.out).mono ?_
  rintro e X18 ⟨rfl, hB⟩
  have HB18 := Lib.hid (Ascii.below2 HB17.out hB)
  have HM18 := Lib.hid (HM17.out.later hB)
  have HF1_18 := Lib.hid (HF1_17.out.later hB)
  have HF2_18 := Lib.hid (HF2_17.out.later hB)
  have HF5_18 := Lib.hid (HF5_17.out.later hB)
  clear HB17 HM17 HF1_17 HF2_17 HF5_17
  clear hB 
  go_wp2_with fail
  refine (cN2 _).mono ?_
  rintro e w' ⟨rfl, rfl⟩
  go_wp2_with fail
  refine (cV2 _).mono ?_
  rintro e X19 ⟨rfl, hB⟩
  have HB19 := Lib.hid (Ascii.below2 HB18.out hB)
  have HM19 := Lib.hid (HM18.out.later hB)
  have HF1_19 := Lib.hid (HF1_18.out.later hB)
  have HF2_19 := Lib.hid (HF2_18.out.later hB)
  have HF5_19 := Lib.hid (HF5_18.out.later hB)
  clear HB18 HM18 HF1_18 HF2_18 HF5_18
  clear hB 
  go_wp2
  go_ret
  exact ⟨rfl, HB19.out⟩

/-! ### The row's step -/
theorem reads (os : Os) {H : Type} (enc : TypeId × Value → H) : (DataW.whole enc Tryd.prog ((Card.laidWorld os).forCall (fun _ _ => 0) ⟨#[], #[.string ByteArray.empty, .slice none 0 0, .slice none 0 0, .string ByteArray.empty, .string ByteArray.empty, .slice none 0 0], []⟩).memory Tryd.f3.params.toList Rows.headTellsSpec.vars false (#[.string ByteArray.empty, .slice none 0 0, .slice none 0 0, .string ByteArray.empty, .string ByteArray.empty, .slice none 0 0] : Array Value).toList 8).map (fun x => (x.1, x.2.1)) = some ([.lit (.string []), .nil, .nil, .lit (.string []), .lit (.string []), .nil], []) := by kernel_rfl
set_option maxRecDepth 100000 in
theorem lifted (os : Os) (started : os.Started) (H : Type) (enc : TypeId × Value → H) (F : Stop.Interp) :
    ReturnsInHanded {} Tryd.checked os 3 .any ((OpenSpec.ofChange Rows.headTellsSpec).preRow enc Tryd.prog Tryd.f3 Rows.headTellsRow.domain false Rows.headTellsRow.laid) (((OpenSpec.ofChange Rows.headTellsSpec).at F).post enc Tryd.prog Tryd.f3 false true false false) := by
  obtain ⟨⟨x1, x2, x3⟩, hx, hx1⟩ := Option.map_eq_some_iff.1 (reads os enc)
  simp only [Prod.mk.injEq] at hx1
  obtain ⟨rfl, rfl⟩ := hx1
  refine returnsInHanded_of_row (C := Tryd.checked) (s := OpenSpec.ofChange Rows.headTellsSpec) own started (by kernel_rfl) Tryd.func3
    (witness_row_at (enc := enc) (C := Tryd.checked) false (Card.laidWorld os) #[.string ByteArray.empty, .slice none 0 0, .slice none 0 0, .string ByteArray.empty, .string ByteArray.empty, .slice none 0 0] rfl (by kernel_rfl) (by kernel_rfl) (by kernel_rfl)
      (OpenSpec.preRow_of_cond 8 hx (by kernel_rfl) (fun k hk => by cases hk) (by kernel_rfl) (Card.laid_met os _))) ?_
  intro W base args ds gs before hval0 hW _ _ hw0 hL hsh _
  obtain ⟨m, hm⟩ := Card.maxLen_int hsh
  have hval : ∀ (j : Nat) t v, Tryd.f3.params[j]? = some t → args[j]? = some v → Value.okWide Tryd.prog W .any base t v := hval0
  have hW' := hW
  obtain ⟨p, q, hA0, hV, rfl, hfz, hnd⟩ := hW
  have hA : DataW.TrodAll enc Tryd.prog W 0 (fun _ => true) true Tryd.f3.params.toList args.toList ds p := hA0
  rw [Tryd.params3] at hA hval
  obtain ⟨v0, vs0, d0, ds0, p0, q0, hargs0, rfl, rfl, t0, r0⟩ := trodAll_cons hA
  obtain ⟨v1, vs1, d1, ds1, p1, q1, hargs1, rfl, rfl, t1, r1⟩ := trodAll_cons r0
  obtain ⟨v2, vs2, d2, ds2, p2, q2, hargs2, rfl, rfl, t2, r2⟩ := trodAll_cons r1
  obtain ⟨v3, vs3, d3, ds3, p3, q3, hargs3, rfl, rfl, t3, r3⟩ := trodAll_cons r2
  obtain ⟨v4, vs4, d4, ds4, p4, q4, hargs4, rfl, rfl, t4, r4⟩ := trodAll_cons r3
  obtain ⟨v5, vs5, d5, ds5, p5, q5, hargs5, rfl, rfl, t5, r5⟩ := trodAll_cons r4
  obtain ⟨rfl, rfl, rfl⟩ := trodAll_nil r5
  obtain rfl : args = #[v0, v1, v2, v3, v4, v5] := by cases args; simp_all
  obtain ⟨rfl, rfl⟩ := trodVars_none hV
  obtain ⟨a0, rfl, rfl, rfl, w0⟩ := open_string Tryd.underlying9 (hval 0 9 v0 rfl rfl) t0
  obtain ⟨a1, len1, cap1, rfl⟩ := okWide_slice Tryd.underlying22 (hval 1 22 v1 rfl rfl)
  have k1 := t1
  have lt1 : ∀ x ∈ p1, x.block < W.heap.size := by obtain ⟨m, hm⟩ := k1; exact DataW.trod_lt m _ _ _ hm
  obtain ⟨z1, w1⟩ := Head.open_flds t1
  obtain ⟨a2, len2, cap2, rfl⟩ := okWide_slice Tryd.underlying22 (hval 2 22 v2 rfl rfl)
  have k2 := t2
  have lt2 : ∀ x ∈ p2, x.block < W.heap.size := by obtain ⟨m, hm⟩ := k2; exact DataW.trod_lt m _ _ _ hm
  obtain ⟨z2, w2⟩ := Head.open_flds t2
  obtain ⟨a3, rfl, rfl, rfl, w3⟩ := open_string Tryd.underlying9 (hval 3 9 v3 rfl rfl) t3
  obtain ⟨a4, rfl, rfl, rfl, w4⟩ := open_string Tryd.underlying9 (hval 4 9 v4 rfl rfl) t4
  obtain ⟨a5, len5, cap5, rfl⟩ := okWide_slice Tryd.underlying23 (hval 5 23 v5 rfl rfl)
  have k5 := t5
  have lt5 : ∀ x ∈ p5, x.block < W.heap.size := by obtain ⟨m, hm⟩ := k5; exact DataW.trod_lt m _ _ _ hm
  obtain ⟨z5, w5, wl5⟩ := Path.open_texts_wide t5 (fun n hn => of_decide_eq_true (List.all_eq_true.1 hw0 _ (DataW.weights_mem_each (j := 5) (t := 23) (by kernel_rfl) rfl n hn)))
  clear hA0 hval0
  simp only [List.append_nil] at hW'
  refine (walk a0 (.slice a1 len1 cap1) z1 (.slice a2 len2 cap2) z2 a3 a4 (.slice a5 len5 cap5) z5 w0 w3 w4 m W hm w1 w2 w5 wl5).mono fun e W' ⟨he, bel⟩ => ?_
  subst he
  exact ⟨_, rfl, _, _, _, [], _, [], hW', trodAll_mk1 (shut_bool Tryd.underlying4 _), (trodAll_cons_mk (shut_string Tryd.underlying9 w0) (trodAll_cons_mk (Below.trod laidOut (by kernel_rfl) (of_decide_eq_true (by kernel_rfl)) k1 bel lt1) (trodAll_cons_mk (Below.trod laidOut (by kernel_rfl) (of_decide_eq_true (by kernel_rfl)) k2 bel lt2) (trodAll_cons_mk (shut_string Tryd.underlying9 w3) (trodAll_cons_mk (shut_string Tryd.underlying9 w4) (trodAll_cons_mk (Below.trod laidOut (by kernel_rfl) (of_decide_eq_true (by kernel_rfl)) k5 bel lt5) trodAll_mk0)))))), rfl, bel.frame _, fun h => by cases h⟩

theorem said : Rows.headTellsRow.holds Tryd.pinned (OpenSpec.ofChange Rows.headTellsSpec) :=
  OpenClaim.holds_of_cond 3 Tryd.f3 rfl rfl rfl rfl rfl rfl rfl ⟨rfl, rfl, rfl, rfl, rfl⟩ rfl rfl rfl rfl rfl (by kernel_rfl) Tryd.func3 (by kernel_rfl)
    (of_decide_eq_true (by kernel_rfl)) (by unfold Func.isWrapper; first | (rw [if_pos (by decide +kernel)]; kernel_rfl) | (rw [if_neg (by decide +kernel)]; exact ⟨rfl, rfl⟩))
    (fun os started H enc _ F => by rw [OpenClaim.pre_eq_preRow]; exact lifted os started H enc F)

/-- No parameter wants a stand-in; the program's own looks are off. -/
theorem plain (f : FuncId) (fn : Func) (hf : Tryd.pinned.checked.prog.funcNamed Rows.headTellsRow.func = some f) (hfn : Tryd.pinned.checked.prog.funcs[f]? = some fn) :
    false = Tryd.pinned.checked.prog.looks [] ∧ ∀ (j : Nat) t, fn.params[j]? = some t → Tryd.pinned.checked.prog.wantsStandIn t = false := by
  obtain rfl : f = 3 := Option.some.inj ((show Tryd.prog.funcNamed Rows.headTellsRow.func = some 3 by kernel_rfl).symm.trans hf) |>.symm
  obtain rfl : fn = Tryd.f3 := (Option.some.inj (Tryd.func3.symm.trans hfn)).symm
  refine ⟨by kernel_rfl, fun j t ht => ?_⟩
  rw [Tryd.params3] at ht
  obtain rfl | rfl | rfl | rfl : t = 9 ∨ t = 22 ∨ t = 9 ∨ t = 23 := by simpa using Array.mem_of_getElem? ht
  · exact (show Tryd.prog.wantsStandIn 9 = false by kernel_rfl)
  · exact (show Tryd.prog.wantsStandIn 22 = false by kernel_rfl)
  · exact (show Tryd.prog.wantsStandIn 9 = false by kernel_rfl)
  · exact (show Tryd.prog.wantsStandIn 23 = false by kernel_rfl)

/-- The statement: the card. -/
theorem proved : Rows.HeadTellsCardSaid :=
  Claim7.holds_tied_plain_at .later [] _ _ _ _ said (fun _ h => by cases h) (by kernel_rfl) (fun _ h => by cases h) headTells_row_tie rfl ⟨rfl, rfl⟩ (by kernel_rfl) rfl plain (by kernel_rfl)
#print axioms proved
end Go.Proofs.YtagmmdnfbjgmcaaDoor.headTells
