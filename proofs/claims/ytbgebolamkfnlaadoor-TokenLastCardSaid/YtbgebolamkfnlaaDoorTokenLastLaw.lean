/-
  For every input the law TokenLast (P14.2, P14.4) answers true, and its arguments read as before: of two lists the last one that tells a policy counts, and what names none changes nothing. Conditions: the two tables of unicode/utf8 and package token's table of names lie as their texts lay them (listed by the card), internal/bytealg.MaxLen holds any int.
-/
import Derived.Test.YtbgebolamkfnlaaDoorCards
import Derived.Test.YtbgebolamkfnlaaDoorTie
import Derived.WalkKit
import Derived.ProofKit
import Derived.OpenShut
import Derived.ShutString
import Derived.ChangeOld
import Derived.Below
import Derived.SizedLaws
import Derived.Test.YtbgebolamkfnlaaDoorTkOpen
namespace Go.Proofs.YtbgebolamkfnlaaDoor.tokenLast
open Go.ChangeShapes Go.WideShapes Go.ChangeAt Go.RowKit
open Go.ChangeMaps (open_string shut_string)
open Go.Shelf
open Go.Proofs.YtbgebolamkfnlaaDoor.Token
set_option linter.unusedSimpArgs false
set_option linter.unusedVariables false

theorem own : ownKnob Tryd.prog.godebug = none := by kernel_rfl
theorem laidOut : laidOutB Tryd.prog = true := by kernel_rfl

open Head
set_option maxRecDepth 100000
set_option maxHeartbeats 16000000 in
theorem walk (a0 : ByteArray) (a1 : ByteArray) (a2 : ByteArray) (w0 : a0.size ≤ maxLen) (w1 : a1.size ≤ maxLen) (w2 : a2.size ≤ maxLen) (m : Int) (w : World) (hm : Token.TokAt m w)  :
    Calls Tryd.prog 5 #[.string a0, .string a1, .string a2] w fun e w' => e = .returned (.bool true) ∧ Below w.heap.size w w' := by
  have HM0 := Lib.hid hm
  clear hm
  go_enter Tryd.func5, Tryd.ntmps5
  go_wp2_with fail
  refine (Token.awake_calls m w HM0.out).mono ?_
  rintro e X1 ⟨rfl, hB⟩
  have HB1 := Lib.hid (hB)
  have HM1 := Lib.hid (HM0.out.later hB)
  clear HM0
  clear hB
  rcases Nat.lt_or_ge 300 a0.size with h0 | h0
  · have q : decide ((300 : Int) < (a0.size : Int)) = true := decide_eq_true (by omega)
    go_wp2
    go_ret
    exact ⟨rfl, HB1.out⟩
  have q0 : decide ((300 : Int) < (a0.size : Int)) = false := decide_eq_false (by omega)
  rcases Nat.lt_or_ge 300 a1.size with h1 | h1
  · have q : decide ((300 : Int) < (a1.size : Int)) = true := decide_eq_true (by omega)
    go_wp2
    go_ret
    exact ⟨rfl, HB1.out⟩
  have q1 : decide ((300 : Int) < (a1.size : Int)) = false := decide_eq_false (by omega)
  rcases Nat.lt_or_ge 300 a2.size with h2 | h2
  · have q : decide ((300 : Int) < (a2.size : Int)) = true := decide_eq_true (by omega)
    go_wp2
    go_ret
    exact ⟨rfl, HB1.out⟩
  have q2 : decide ((300 : Int) < (a2.size : Int)) = false := decide_eq_false (by omega)
  have cA := fun u (hu : Token.TokAt m u) => Token.last_any a0 (by omega) m u hu
  have cB := fun u (hu : Token.TokAt m u) => Token.last_any a1 (by omega) m u hu
  have cX := fun u (hu : Token.TokAt m u) => Token.last_any a2 (by omega) m u hu
  have hz : (a0 ++ (⟨#[44]⟩ : ByteArray) ++ a1).size ≤ 1000000 := by simp only [ByteArray.size_append]; show _ ≤ 1000000; have e1 : (⟨#[44]⟩ : ByteArray).size = 1 := rfl; have e2 : (⟨#[32, 44]⟩ : ByteArray).size = 2 := rfl; have e3 : (⟨#[44, 32]⟩ : ByteArray).size = 2 := rfl; omega
  have cAB := fun u (hu : Token.TokAt m u) => Token.last_any (a0 ++ (⟨#[44]⟩ : ByteArray) ++ a1) hz m u hu
  rw [show (a0 ++ (⟨#[44]⟩ : ByteArray) ++ a1).data.toList = a0.data.toList ++ 44 :: a1.data.toList by simp only [Path.text_append]; first | rfl | simp] at cAB
  clear hz
  rw [Token.last_app] at cAB
  have cAX : Token.lastB a2.data.toList = 0 → ∀ u, Token.TokAt m u → Calls Tryd.prog 18 #[.string (a0 ++ (⟨#[44]⟩ : ByteArray) ++ a2)] u fun e w' => e = .returned (.int .i64 (Token.lastB a0.data.toList : Nat)) ∧ Below u.heap.size u w' := fun h0 => by
    have hz : (a0 ++ (⟨#[44]⟩ : ByteArray) ++ a2).size ≤ 1000000 := by simp only [ByteArray.size_append]; show _ ≤ 1000000; have e1 : (⟨#[44]⟩ : ByteArray).size = 1 := rfl; omega
    have c := fun u (hu : Token.TokAt m u) => Token.last_any (a0 ++ (⟨#[44]⟩ : ByteArray) ++ a2) hz m u hu
    rw [show (a0 ++ (⟨#[44]⟩ : ByteArray) ++ a2).data.toList = a0.data.toList ++ 44 :: a2.data.toList by simp only [Path.text_append]; first | rfl | simp, Token.last_none _ _ h0] at c
    exact c
  have cXA : Token.lastB a2.data.toList = 0 → ∀ u, Token.TokAt m u → Calls Tryd.prog 18 #[.string (a2 ++ (⟨#[32, 44]⟩ : ByteArray) ++ a0)] u fun e w' => e = .returned (.int .i64 (Token.lastB a0.data.toList : Nat)) ∧ Below u.heap.size u w' := fun h0 => by
    have hz : (a2 ++ (⟨#[32, 44]⟩ : ByteArray) ++ a0).size ≤ 1000000 := by simp only [ByteArray.size_append]; show _ ≤ 1000000; have e1 : (⟨#[32, 44]⟩ : ByteArray).size = 2 := rfl; omega
    have c := fun u (hu : Token.TokAt m u) => Token.last_any (a2 ++ (⟨#[32, 44]⟩ : ByteArray) ++ a0) hz m u hu
    rw [show (a2 ++ (⟨#[32, 44]⟩ : ByteArray) ++ a0).data.toList = a2.data.toList ++ [32, 44] ++ a0.data.toList by simp only [Path.text_append], Token.last_front _ _ h0] at c
    exact c
  have cM : Token.lastB a2.data.toList = 0 → ∀ u, Token.TokAt m u → Calls Tryd.prog 18 #[.string (a0 ++ (⟨#[44, 32]⟩ : ByteArray) ++ a2 ++ (⟨#[44]⟩ : ByteArray) ++ a1)] u fun e w' => e = .returned (.int .i64 ((if Token.lastB a1.data.toList = 0 then Token.lastB a0.data.toList else Token.lastB a1.data.toList : Nat))) ∧ Below u.heap.size u w' := fun h0 => by
    have hz : (a0 ++ (⟨#[44, 32]⟩ : ByteArray) ++ a2 ++ (⟨#[44]⟩ : ByteArray) ++ a1).size ≤ 1000000 := by simp only [ByteArray.size_append]; show _ ≤ 1000000; have e1 : (⟨#[44]⟩ : ByteArray).size = 1 := rfl; have e3 : (⟨#[44, 32]⟩ : ByteArray).size = 2 := rfl; omega
    have c := fun u (hu : Token.TokAt m u) => Token.last_any (a0 ++ (⟨#[44, 32]⟩ : ByteArray) ++ a2 ++ (⟨#[44]⟩ : ByteArray) ++ a1) hz m u hu
    rw [show (a0 ++ (⟨#[44, 32]⟩ : ByteArray) ++ a2 ++ (⟨#[44]⟩ : ByteArray) ++ a1).data.toList = a0.data.toList ++ [44, 32] ++ a2.data.toList ++ 44 :: a1.data.toList by simp only [Path.text_append]; first | rfl | simp, Token.last_mid _ _ _ h0] at c
    exact c
  have s1 : (a0 ++ (⟨#[44]⟩ : ByteArray)).size ≤ 301 := by rw [ByteArray.size_append]; show _ + 1 ≤ _; omega
  have s2 : (a2 ++ (⟨#[32, 44]⟩ : ByteArray)).size ≤ 302 := by rw [ByteArray.size_append]; show _ + 2 ≤ _; omega
  have s3 : (a0 ++ (⟨#[44, 32]⟩ : ByteArray)).size ≤ 302 := by rw [ByteArray.size_append]; show _ + 2 ≤ _; omega
  have s4 : (a0 ++ (⟨#[44, 32]⟩ : ByteArray) ++ a2).size ≤ 602 := by rw [ByteArray.size_append]; omega
  have s5 : (a0 ++ (⟨#[44, 32]⟩ : ByteArray) ++ a2 ++ (⟨#[44]⟩ : ByteArray)).size ≤ 603 := by rw [ByteArray.size_append]; show _ + 1 ≤ _; omega
  generalize Token.lastB a0.data.toList = p at cA cAB cAX cXA cM
  generalize Token.lastB a1.data.toList = q at cB cAB cM
  generalize Token.lastB a2.data.toList = r at cX cAX cXA cM
  have HAX := Lib.hid cAX
  have HXA := Lib.hid cXA
  have HMM := Lib.hid cM
  clear cAX cXA cM
  go_wp2_with fail
  refine (cA _ HM1.out).mono ?_
  rintro e X2 ⟨rfl, hB⟩
  have HB2 := Lib.hid (Ascii.below2 HB1.out hB)
  have HM2 := Lib.hid (HM1.out.later hB)
  clear HB1 HM1
  clear hB 
  go_wp2_with fail
  refine (cB _ HM2.out).mono ?_
  rintro e X3 ⟨rfl, hB⟩
  have HB3 := Lib.hid (Ascii.below2 HB2.out hB)
  have HM3 := Lib.hid (HM2.out.later hB)
  clear HB2 HM2
  clear hB 
  go_wp2_with fail
  refine (cAB _ HM3.out).mono ?_
  rintro e X4 ⟨rfl, hB⟩
  have HB4 := Lib.hid (Ascii.below2 HB3.out hB)
  have HM4 := Lib.hid (HM3.out.later hB)
  clear HB3 HM3
  clear hB 
  clear cA cB cAB
  by_cases hq : q = 0
  · subst hq
    rw [if_pos rfl]
    go_wp2_with fail
    refine (cX _ HM4.out).mono ?_
    rintro e X5 ⟨rfl, hB⟩
    have HB5 := Lib.hid (Ascii.below2 HB4.out hB)
    have HM5 := Lib.hid (HM4.out.later hB)
    clear HB4 HM4
    clear hB 
    clear cX
    by_cases hr : r = 0
    · subst hr
      have cAX := HAX.out rfl
      have cXA := HXA.out rfl
      have cM := HMM.out rfl
      clear HAX HXA HMM
      rw [if_pos trivial] at cM
      go_wp2_with fail
      refine (cAX _ HM5.out).mono ?_
      rintro e X6 ⟨rfl, hB⟩
      have HB6 := Lib.hid (Ascii.below2 HB5.out hB)
      have HM6 := Lib.hid (HM5.out.later hB)
      clear HB5 HM5
      clear hB 
      go_wp2_with fail
      refine (cXA _ HM6.out).mono ?_
      rintro e X7 ⟨rfl, hB⟩
      have HB7 := Lib.hid (Ascii.below2 HB6.out hB)
      have HM7 := Lib.hid (HM6.out.later hB)
      clear HB6 HM6
      clear hB 
      go_wp2_with fail
      refine (cM _ HM7.out).mono ?_
      rintro e X8 ⟨rfl, hB⟩
      have HB8 := Lib.hid (Ascii.below2 HB7.out hB)
      have HM8 := Lib.hid (HM7.out.later hB)
      clear HB7 HM7
      clear hB 
      go_wp2
      go_ret
      exact ⟨rfl, HB8.out⟩
    have qr : ((r : Int) == 0) = false := by rw [beq_eq_false_iff_ne]; omega
    clear HAX HXA HMM hr
    go_wp2
    go_ret
    exact ⟨rfl, HB5.out⟩
  rw [if_neg hq]
  have HQ := Lib.hid hq
  have qq : ((q : Int) == 0) = false := by rw [beq_eq_false_iff_ne]; omega
  clear hq
  go_wp2_with fail
  refine (cX _ HM4.out).mono ?_
  rintro e X5 ⟨rfl, hB⟩
  have HB5 := Lib.hid (Ascii.below2 HB4.out hB)
  have HM5 := Lib.hid (HM4.out.later hB)
  clear HB4 HM4
  clear hB 
  clear cX
  by_cases hr : r = 0
  · subst hr
    have cAX := HAX.out rfl
    have cXA := HXA.out rfl
    have cM := HMM.out rfl
    clear HAX HXA HMM
    rw [if_neg HQ.out] at cM
    go_wp2_with fail
    refine (cAX _ HM5.out).mono ?_
    rintro e X6 ⟨rfl, hB⟩
    have HB6 := Lib.hid (Ascii.below2 HB5.out hB)
    have HM6 := Lib.hid (HM5.out.later hB)
    clear HB5 HM5
    clear hB 
    go_wp2_with fail
    refine (cXA _ HM6.out).mono ?_
    rintro e X7 ⟨rfl, hB⟩
    have HB7 := Lib.hid (Ascii.below2 HB6.out hB)
    have HM7 := Lib.hid (HM6.out.later hB)
    clear HB6 HM6
    clear hB 
    go_wp2_with fail
    refine (cM _ HM7.out).mono ?_
    rintro e X8 ⟨rfl, hB⟩
    have HB8 := Lib.hid (Ascii.below2 HB7.out hB)
    have HM8 := Lib.hid (HM7.out.later hB)
    clear HB7 HM7
    clear hB 
    go_wp2
    go_ret
    exact ⟨rfl, HB8.out⟩
  have qr : ((r : Int) == 0) = false := by rw [beq_eq_false_iff_ne]; omega
  clear HAX HXA HMM hr
  go_wp2
  go_ret
  exact ⟨rfl, HB5.out⟩

/-! ### The row's step -/
theorem reads (os : Os) {H : Type} (enc : TypeId × Value → H) : (DataW.whole enc Tryd.prog ((Card.laidWorld os).forCall (fun _ _ => 0) ⟨#[], #[.string ByteArray.empty, .string ByteArray.empty, .string ByteArray.empty], []⟩).memory Tryd.f5.params.toList Rows.tokenLastSpec.vars false (#[.string ByteArray.empty, .string ByteArray.empty, .string ByteArray.empty] : Array Value).toList 8).map (fun x => (x.1, x.2.1)) = some ([.lit (.string []), .lit (.string []), .lit (.string [])], []) := by kernel_rfl
set_option maxRecDepth 100000 in
theorem lifted (os : Os) (started : os.Started) (H : Type) (enc : TypeId × Value → H) (F : Stop.Interp) :
    ReturnsInHanded {} Tryd.checked os 5 .any ((OpenSpec.ofChange Rows.tokenLastSpec).preRow enc Tryd.prog Tryd.f5 Rows.tokenLastRow.domain false Rows.tokenLastRow.laid) (((OpenSpec.ofChange Rows.tokenLastSpec).at F).post enc Tryd.prog Tryd.f5 false true false false) := by
  obtain ⟨⟨x1, x2, x3⟩, hx, hx1⟩ := Option.map_eq_some_iff.1 (reads os enc)
  simp only [Prod.mk.injEq] at hx1
  obtain ⟨rfl, rfl⟩ := hx1
  refine returnsInHanded_of_row (C := Tryd.checked) (s := OpenSpec.ofChange Rows.tokenLastSpec) own started (by kernel_rfl) Tryd.func5
    (witness_row_at (enc := enc) (C := Tryd.checked) false (Card.laidWorld os) #[.string ByteArray.empty, .string ByteArray.empty, .string ByteArray.empty] rfl (by kernel_rfl) (by kernel_rfl) (by kernel_rfl)
      (OpenSpec.preRow_of_cond 8 hx (by kernel_rfl) (fun k hk => by cases hk) (by kernel_rfl) (Card.laid_met os _))) ?_
  intro W base args ds gs before hval0 hW _ _ hw0 hL hsh _
  obtain ⟨m, hm⟩ := Card.maxLen_int hsh
  have hm := Token.tok_of hm hL
  have hval : ∀ (j : Nat) t v, Tryd.f5.params[j]? = some t → args[j]? = some v → Value.okWide Tryd.prog W .any base t v := hval0
  have hW' := hW
  obtain ⟨p, q, hA0, hV, rfl, hfz, hnd⟩ := hW
  have hA : DataW.TrodAll enc Tryd.prog W 0 (fun _ => true) true Tryd.f5.params.toList args.toList ds p := hA0
  rw [Tryd.params5] at hA hval
  obtain ⟨v0, vs0, d0, ds0, p0, q0, hargs0, rfl, rfl, t0, r0⟩ := trodAll_cons hA
  obtain ⟨v1, vs1, d1, ds1, p1, q1, hargs1, rfl, rfl, t1, r1⟩ := trodAll_cons r0
  obtain ⟨v2, vs2, d2, ds2, p2, q2, hargs2, rfl, rfl, t2, r2⟩ := trodAll_cons r1
  obtain ⟨rfl, rfl, rfl⟩ := trodAll_nil r2
  obtain rfl : args = #[v0, v1, v2] := by cases args; simp_all
  obtain ⟨rfl, rfl⟩ := trodVars_none hV
  obtain ⟨a0, rfl, rfl, rfl, w0⟩ := open_string Tryd.underlying9 (hval 0 9 v0 rfl rfl) t0
  obtain ⟨a1, rfl, rfl, rfl, w1⟩ := open_string Tryd.underlying9 (hval 1 9 v1 rfl rfl) t1
  obtain ⟨a2, rfl, rfl, rfl, w2⟩ := open_string Tryd.underlying9 (hval 2 9 v2 rfl rfl) t2
  clear hA0 hval0
  simp only [List.append_nil] at hW'
  refine (walk a0 a1 a2 w0 w1 w2 m W hm ).mono fun e W' ⟨he, bel⟩ => ?_
  subst he
  exact ⟨_, rfl, _, _, _, [], _, [], hW', trodAll_mk1 (shut_bool Tryd.underlying4 _), (trodAll_cons_mk (shut_string Tryd.underlying9 w0) (trodAll_cons_mk (shut_string Tryd.underlying9 w1) (trodAll_cons_mk (shut_string Tryd.underlying9 w2) trodAll_mk0))), rfl, bel.frame _, fun h => by cases h⟩

theorem said : Rows.tokenLastRow.holds Tryd.pinned (OpenSpec.ofChange Rows.tokenLastSpec) :=
  OpenClaim.holds_of_cond 5 Tryd.f5 rfl rfl rfl rfl rfl rfl rfl ⟨rfl, rfl, rfl, rfl, rfl⟩ rfl rfl rfl rfl rfl (by kernel_rfl) Tryd.func5 (by kernel_rfl)
    (of_decide_eq_true (by kernel_rfl)) (by unfold Func.isWrapper; first | (rw [if_pos (by decide +kernel)]; kernel_rfl) | (rw [if_neg (by decide +kernel)]; exact ⟨rfl, rfl⟩))
    (fun os started H enc _ F => by rw [OpenClaim.pre_eq_preRow]; exact lifted os started H enc F)

/-- No parameter wants a stand-in; the program's own looks are off. -/
theorem plain (f : FuncId) (fn : Func) (hf : Tryd.pinned.checked.prog.funcNamed Rows.tokenLastRow.func = some f) (hfn : Tryd.pinned.checked.prog.funcs[f]? = some fn) :
    false = Tryd.pinned.checked.prog.looks [] ∧ ∀ (j : Nat) t, fn.params[j]? = some t → Tryd.pinned.checked.prog.wantsStandIn t = false := by
  obtain rfl : f = 5 := Option.some.inj ((show Tryd.prog.funcNamed Rows.tokenLastRow.func = some 5 by kernel_rfl).symm.trans hf) |>.symm
  obtain rfl : fn = Tryd.f5 := (Option.some.inj (Tryd.func5.symm.trans hfn)).symm
  refine ⟨by kernel_rfl, fun j t ht => ?_⟩
  rw [Tryd.params5] at ht
  obtain rfl : t = 9 := by simpa using Array.mem_of_getElem? ht
  · exact (show Tryd.prog.wantsStandIn 9 = false by kernel_rfl)

/-- The statement: the card. -/
theorem proved : Rows.TokenLastCardSaid :=
  Claim7.holds_tied_plain_at .later [] _ _ _ _ said (fun _ h => by cases h) (by kernel_rfl) (fun _ h => by cases h) tokenLast_row_tie rfl ⟨rfl, rfl⟩ (by kernel_rfl) rfl plain (by kernel_rfl)
#print axioms proved
end Go.Proofs.YtbgebolamkfnlaaDoor.tokenLast
