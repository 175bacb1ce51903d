/-
  For every input the law TokenSplit (P14.2) answers true, and its arguments read as before: the parts of a text have no comma and no blank or tab at their ends, and two texts with a comma between have the parts of both. Conditions: the two tables of unicode/utf8 and package token's table of names lie as their texts lay them (listed by the card), internal/bytealg.MaxLen holds any int.
-/
import Derived.Test.YtbgebolamkfnlaaDoorCards
import Derived.Test.YtbgebolamkfnlaaDoorTie
import Derived.WalkKit
import Derived.ProofKit
import Derived.OpenShut
import Derived.ShutString
import Derived.ChangeOld
import Derived.Below
import Derived.SizedLaws
import Derived.Test.YtbgebolamkfnlaaDoorTkOpen
import Derived.Test.YtbgebolamkfnlaaDoorTkParts
namespace Go.Proofs.YtbgebolamkfnlaaDoor.tokenSplit
open Go.ChangeShapes Go.WideShapes Go.ChangeAt Go.RowKit
open Go.ChangeMaps (open_string shut_string)
open Go.Shelf
open Go.Proofs.YtbgebolamkfnlaaDoor.Token
set_option linter.unusedSimpArgs false
set_option linter.unusedVariables false

theorem own : ownKnob Tryd.prog.godebug = none := by kernel_rfl
theorem laidOut : laidOutB Tryd.prog = true := by kernel_rfl

open Head
set_option maxRecDepth 100000
set_option maxHeartbeats 16000000 in
theorem walk (a0 : ByteArray) (a1 : ByteArray) (a2 : Int) (w0 : a0.size ≤ maxLen) (w1 : a1.size ≤ maxLen) (w2 : (Lit.int .i64 a2).wf = true) (m : Int) (w : World) (hm : Token.TokAt m w)  :
    Calls Tryd.prog 7 #[.string a0, .string a1, .int .i64 a2] w fun e w' => e = .returned (.bool true) ∧ Below w.heap.size w w' := by
  have HM0 := Lib.hid hm
  clear hm
  go_enter Tryd.func7, Tryd.ntmps7
  go_wp2_with fail
  refine (Token.awake_calls m w HM0.out).mono ?_
  rintro e X1 ⟨rfl, hB⟩
  have HB1 := Lib.hid (hB)
  have HM1 := Lib.hid (HM0.out.later hB)
  clear HM0
  clear hB
  rcases Nat.lt_or_ge 300 a0.size with h0 | h0
  · have q : decide ((300 : Int) < (a0.size : Int)) = true := decide_eq_true (by omega)
    go_wp2
    go_ret
    exact ⟨rfl, HB1.out⟩
  have q0 : decide ((300 : Int) < (a0.size : Int)) = false := decide_eq_false (by omega)
  rcases Nat.lt_or_ge 300 a1.size with h1 | h1
  · have q : decide ((300 : Int) < (a1.size : Int)) = true := decide_eq_true (by omega)
    go_wp2
    go_ret
    exact ⟨rfl, HB1.out⟩
  have q1 : decide ((300 : Int) < (a1.size : Int)) = false := decide_eq_false (by omega)
  have hs0 : (a0 ++ ⟨#[44]⟩ : ByteArray).size ≤ 301 := by rw [ByteArray.size_append]; show _ + 1 ≤ _; omega
  have hs1 : (a0 ++ ⟨#[44]⟩ ++ a1 : ByteArray).size ≤ 1000000 := by rw [ByteArray.size_append]; omega
  have cZ := fun u (hu : Path.MaxAt m u) => Token.split_any (a0 ++ ⟨#[44]⟩ ++ a1) hs1 m u hu
  rw [show (a0 ++ ⟨#[44]⟩ ++ a1 : ByteArray).data.toList = a0.data.toList ++ 44 :: a1.data.toList by simp only [Path.text_append]; simp, Token.split_app] at cZ
  have hla := Token.split_len a0.data.toList
  have hlb := Token.split_len a1.data.toList
  have hlp := Token.split_pos a0.data.toList
  have HME := Lib.hid (Token.split_mem a0.data.toList)
  have hz0 : List.length a0.data.toList = a0.size := rfl
  have hz1 : List.length a1.data.toList = a1.size := rfl
  have cA := fun u (hu : Path.MaxAt m u) => Token.split_any a0 (by omega) m u hu
  have cB := fun u (hu : Path.MaxAt m u) => Token.split_any a1 (by omega) m u hu
  generalize Token.splitL a0.data.toList = L at cA cZ hla hlp HME
  generalize Token.splitL a1.data.toList = M at cB cZ hlb
  obtain ⟨LM, hLM⟩ : ∃ x, L ++ M = x := ⟨_, rfl⟩
  rw [hLM] at cZ
  have HLM := Lib.hid hLM
  clear hLM
  go_wp2_with fail
  refine (cA _ HM1.out.max).mono ?_
  rintro e X2 ⟨vx, rfl, hS, hB⟩
  have hsh := hS
  obtain ⟨ay1, cy1, rfl, -⟩ := hsh
  have HB2 := Lib.hid (Ascii.below2 HB1.out hB)
  have HM2 := Lib.hid (HM1.out.later hB)
  have HL_2 := Lib.hid (hS)
  clear HB1 HM1
  clear hB hS
  go_wp2_with fail
  refine (cB _ HM2.out.max).mono ?_
  rintro e X3 ⟨vy, rfl, hS, hB⟩
  have hsh := hS
  obtain ⟨ay2, cy2, rfl, -⟩ := hsh
  have HB3 := Lib.hid (Ascii.below2 HB2.out hB)
  have HM3 := Lib.hid (HM2.out.later hB)
  have HL_3 := Lib.hid (HL_2.out.later hB)
  have HK_3 := Lib.hid (hS)
  clear HB2 HM2 HL_2
  clear hB hS
  go_wp2_with fail
  refine (cZ _ HM3.out.max).mono ?_
  rintro e X4 ⟨vz, rfl, hS, hB⟩
  have hsh := hS
  obtain ⟨ay3, cy3, rfl, -⟩ := hsh
  have HB4 := Lib.hid (Ascii.below2 HB3.out hB)
  have HM4 := Lib.hid (HM3.out.later hB)
  have HL_4 := Lib.hid (HL_3.out.later hB)
  have HK_4 := Lib.hid (HK_3.out.later hB)
  have HZ_4 := Lib.hid (hS)
  clear HB3 HM3 HL_3 HK_3
  clear hB hS
  clear cA cB cZ hs1
  have OW4 := Lib.hid (OwnS.start X4)
  have HC4 := Lib.hid (Below.refl X4.heap.size X4)
  have SHB := HB4
  have SHM := HM4
  have SHL_ := HL_4
  have SHK_ := HK_4
  have SHZ_ := HZ_4
  go_wp2_with (at_builtin; refine wp_app_strs rfl _ _ rfl rfl OW4.out rfl HL_4.out (by rw [List.length_nil]; omega) ?_)
  intro va4 X5 hO hBb
  have hT := HC4.out.trans hBb
  try rw [List.nil_append] at hO
  have HM5' := Lib.hid (SHM.out.later hT)
  have HL_5' := Lib.hid (SHL_.out.later hT)
  have HK_5' := Lib.hid (SHK_.out.later hT)
  have HZ_5' := Lib.hid (SHZ_.out.later hT)
  have HB5 := Lib.hid (Ascii.below2 SHB.out hT)
  clear HB4 HC4 HM4 HL_4 HK_4 HZ_4 OW4
  have HM5 := HM5'
  clear HM5'
  have HL_5 := HL_5'
  clear HL_5'
  have HK_5 := HK_5'
  clear HK_5'
  have HZ_5 := HZ_5'
  clear HZ_5'
  have OW5 := Lib.hid hO
  have HC5 := Lib.hid hT
  clear hO hBb hT
  go_wp2_with (at_builtin; refine wp_app_strs rfl _ _ rfl rfl OW5.out rfl HK_5.out (by omega) ?_)
  intro va5 X6 hO hBb
  have hT := HC5.out.trans hBb
  have HM6' := Lib.hid (SHM.out.later hT)
  have HL_6' := Lib.hid (SHL_.out.later hT)
  have HK_6' := Lib.hid (SHK_.out.later hT)
  have HZ_6' := Lib.hid (SHZ_.out.later hT)
  have HB6 := Lib.hid (Ascii.below2 SHB.out hT)
  clear HB5 HC5 HM5 HL_5 HK_5 HZ_5 OW5
  have HM6 := HM6'
  clear HM6'
  have HL_6 := HL_6'
  clear HL_6'
  have HK_6 := HK_6'
  clear HK_6'
  have HZ_6 := HZ_6'
  clear HZ_6'
  have OW6 := Lib.hid hO
  have HC6 := Lib.hid hT
  clear hO hBb hT
  have HA_6 := Lib.hid (show Path.Strs X6 va5 LM from by rw [← HLM.out]; exact OW6.out.strs)
  clear OW6 HC6 SHB SHM SHL_ SHK_ SHZ_
  go_wp2_with fail
  have cE := Path.same_any _ _ _ _ X6 HZ_6.out HA_6.out
  rw [show decide (LM = LM) = true from decide_eq_true rfl] at cE
  refine (cE).mono ?_
  rintro e X7 ⟨rfl, hB⟩
  clear HZ_6
  clear HA_6
  clear HK_6
  have HB7 := Lib.hid (Ascii.below2 HB6.out hB)
  have HM7 := Lib.hid (HM6.out.later hB)
  have HL_7 := Lib.hid (HL_6.out.later hB)
  clear HB6 HM6 HL_6
  clear hB 
  clear cE
  have ql : decide ((L.length : Int) < 1) = false := decide_eq_false (by omega)
  have ql' : decide (L.length < 1) = false := decide_eq_false (by omega)
  rcases Int.lt_or_le a2 0 with hi | hi
  · have qi : decide (a2 < 0) = true := decide_eq_true hi
    go_wp2
    go_ret
    exact ⟨rfl, HB7.out⟩
  have qi : decide (a2 < 0) = false := decide_eq_false (by omega)
  rcases Int.lt_or_le a2 (L.length : Int) with hj | hj
  rotate_left
  · have qj : decide ((L.length : Int) ≤ a2) = true := decide_eq_true hj
    go_wp2
    go_ret
    exact ⟨rfl, HB7.out⟩
  have qj : decide ((L.length : Int) ≤ a2) = false := decide_eq_false (by omega)
  obtain ⟨k, rfl⟩ : ∃ k : Nat, a2 = (k : Int) := ⟨a2.toNat, by omega⟩
  have hlt : k < L.length := by omega
  obtain ⟨b, off, rfl, hkc, g0⟩ := Token.strs_at HL_7.out k hlt
  have hme := HME.out _ (List.getElem_mem hlt)
  have hsz : (tb L[k]).size ≤ 300 := by rw [tb_size]; have := hme.2.2.2; omega
  have hpo := Lib.hid (Token.part_ok (tb L[k]) (by rw [tb_list]; exact hme.1) (by rw [tb_list]; exact hme.2.1) (by rw [tb_list]; exact hme.2.2.1))
  clear hme
  generalize tb L[k] = t at g0 hsz hpo
  cases he : t.toList.isEmpty
  rotate_left
  · go_wp2
    go_ret
    exact ⟨rfl, HB7.out⟩
  have hpos : 0 < t.size := by
    rcases Nat.eq_zero_or_pos t.size with h | h
    · rw [ByteArray.toList_eq] at he
      have h2 : t.data.toList = [] := List.eq_nil_of_length_eq_zero h
      rw [h2] at he
      cases he
    · exact h
  obtain ⟨p1, p2, p3, p4, p5⟩ := hpo.out hpos
  have HP1 := Lib.hid p1
  clear p1 hpo
  go_wp2
  go_loopw [12] (fun i wr => ∃ j : Nat, j ≤ t.size ∧ i = .int .i64 j ∧ wr = X7) (fun i _ => t.size - (intOf i).toNat)
  case atStart => exact ⟨0, Nat.zero_le _, rfl, rfl⟩
  case round =>
    obtain ⟨j, hj2, rfl, rfl⟩ := hrel
    by_cases hjl : j < t.size
    · have q44 := HP1.out j hjl
      have qd : decide (j < t.size) = true := decide_eq_true hjl
      clear p2 p3 p4 p5
      go_wp2
      go_roundw
      case rel => exact ⟨j + 1, by omega, by go_num, by first | rfl | trivial⟩
      case measure => simp [intOf]; omega
    · obtain rfl : j = t.size := by omega
      go_wp2
      go_ret
      exact ⟨rfl, HB7.out⟩

/-! ### The row's step -/
theorem reads (os : Os) {H : Type} (enc : TypeId × Value → H) : (DataW.whole enc Tryd.prog ((Card.laidWorld os).forCall (fun _ _ => 0) ⟨#[], #[.string ByteArray.empty, .string ByteArray.empty, .int .i64 0], []⟩).memory Tryd.f7.params.toList Rows.tokenSplitSpec.vars false (#[.string ByteArray.empty, .string ByteArray.empty, .int .i64 0] : Array Value).toList 8).map (fun x => (x.1, x.2.1)) = some ([.lit (.string []), .lit (.string []), .lit (.int .i64 0)], []) := by kernel_rfl
set_option maxRecDepth 100000 in
theorem lifted (os : Os) (started : os.Started) (H : Type) (enc : TypeId × Value → H) (F : Stop.Interp) :
    ReturnsInHanded {} Tryd.checked os 7 .any ((OpenSpec.ofChange Rows.tokenSplitSpec).preRow enc Tryd.prog Tryd.f7 Rows.tokenSplitRow.domain false Rows.tokenSplitRow.laid) (((OpenSpec.ofChange Rows.tokenSplitSpec).at F).post enc Tryd.prog Tryd.f7 false true false false) := by
  obtain ⟨⟨x1, x2, x3⟩, hx, hx1⟩ := Option.map_eq_some_iff.1 (reads os enc)
  simp only [Prod.mk.injEq] at hx1
  obtain ⟨rfl, rfl⟩ := hx1
  refine returnsInHanded_of_row (C := Tryd.checked) (s := OpenSpec.ofChange Rows.tokenSplitSpec) own started (by kernel_rfl) Tryd.func7
    (witness_row_at (enc := enc) (C := Tryd.checked) false (Card.laidWorld os) #[.string ByteArray.empty, .string ByteArray.empty, .int .i64 0] rfl (by kernel_rfl) (by kernel_rfl) (by kernel_rfl)
      (OpenSpec.preRow_of_cond 8 hx (by kernel_rfl) (fun k hk => by cases hk) (by kernel_rfl) (Card.laid_met os _))) ?_
  intro W base args ds gs before hval0 hW _ _ hw0 hL hsh _
  obtain ⟨m, hm⟩ := Card.maxLen_int hsh
  have hm := Token.tok_of hm hL
  have hval : ∀ (j : Nat) t v, Tryd.f7.params[j]? = some t → args[j]? = some v → Value.okWide Tryd.prog W .any base t v := hval0
  have hW' := hW
  obtain ⟨p, q, hA0, hV, rfl, hfz, hnd⟩ := hW
  have hA : DataW.TrodAll enc Tryd.prog W 0 (fun _ => true) true Tryd.f7.params.toList args.toList ds p := hA0
  rw [Tryd.params7] at hA hval
  obtain ⟨v0, vs0, d0, ds0, p0, q0, hargs0, rfl, rfl, t0, r0⟩ := trodAll_cons hA
  obtain ⟨v1, vs1, d1, ds1, p1, q1, hargs1, rfl, rfl, t1, r1⟩ := trodAll_cons r0
  obtain ⟨v2, vs2, d2, ds2, p2, q2, hargs2, rfl, rfl, t2, r2⟩ := trodAll_cons r1
  obtain ⟨rfl, rfl, rfl⟩ := trodAll_nil r2
  obtain rfl : args = #[v0, v1, v2] := by cases args; simp_all
  obtain ⟨rfl, rfl⟩ := trodVars_none hV
  obtain ⟨a0, rfl, rfl, rfl, w0⟩ := open_string Tryd.underlying9 (hval 0 9 v0 rfl rfl) t0
  obtain ⟨a1, rfl, rfl, rfl, w1⟩ := open_string Tryd.underlying9 (hval 1 9 v1 rfl rfl) t1
  obtain ⟨a2, rfl, rfl, rfl, w2⟩ := open_int Tryd.underlying3 (hval 2 3 v2 rfl rfl) t2
  clear hA0 hval0
  simp only [List.append_nil] at hW'
  refine (walk a0 a1 a2 w0 w1 w2 m W hm ).mono fun e W' ⟨he, bel⟩ => ?_
  subst he
  exact ⟨_, rfl, _, _, _, [], _, [], hW', trodAll_mk1 (shut_bool Tryd.underlying4 _), (trodAll_cons_mk (shut_string Tryd.underlying9 w0) (trodAll_cons_mk (shut_string Tryd.underlying9 w1) (trodAll_cons_mk (shut_int Tryd.underlying3 w2) trodAll_mk0))), rfl, bel.frame _, fun h => by cases h⟩

theorem said : Rows.tokenSplitRow.holds Tryd.pinned (OpenSpec.ofChange Rows.tokenSplitSpec) :=
  OpenClaim.holds_of_cond 7 Tryd.f7 rfl rfl rfl rfl rfl rfl rfl ⟨rfl, rfl, rfl, rfl, rfl⟩ rfl rfl rfl rfl rfl (by kernel_rfl) Tryd.func7 (by kernel_rfl)
    (of_decide_eq_true (by kernel_rfl)) (by unfold Func.isWrapper; first | (rw [if_pos (by decide +kernel)]; kernel_rfl) | (rw [if_neg (by decide +kernel)]; exact ⟨rfl, rfl⟩))
    (fun os started H enc _ F => by rw [OpenClaim.pre_eq_preRow]; exact lifted os started H enc F)

/-- No parameter wants a stand-in; the program's own looks are off. -/
theorem plain (f : FuncId) (fn : Func) (hf : Tryd.pinned.checked.prog.funcNamed Rows.tokenSplitRow.func = some f) (hfn : Tryd.pinned.checked.prog.funcs[f]? = some fn) :
    false = Tryd.pinned.checked.prog.looks [] ∧ ∀ (j : Nat) t, fn.params[j]? = some t → Tryd.pinned.checked.prog.wantsStandIn t = false := by
  obtain rfl : f = 7 := Option.some.inj ((show Tryd.prog.funcNamed Rows.tokenSplitRow.func = some 7 by kernel_rfl).symm.trans hf) |>.symm
  obtain rfl : fn = Tryd.f7 := (Option.some.inj (Tryd.func7.symm.trans hfn)).symm
  refine ⟨by kernel_rfl, fun j t ht => ?_⟩
  rw [Tryd.params7] at ht
  obtain rfl | rfl : t = 9 ∨ t = 3 := by simpa using Array.mem_of_getElem? ht
  · exact (show Tryd.prog.wantsStandIn 9 = false by kernel_rfl)
  · exact (show Tryd.prog.wantsStandIn 3 = false by kernel_rfl)

/-- The statement: the card. -/
theorem proved : Rows.TokenSplitCardSaid :=
  Claim7.holds_tied_plain_at .later [] _ _ _ _ said (fun _ h => by cases h) (by kernel_rfl) (fun _ h => by cases h) tokenSplit_row_tie rfl ⟨rfl, rfl⟩ (by kernel_rfl) rfl plain (by kernel_rfl)
#print axioms proved
end Go.Proofs.YtbgebolamkfnlaaDoor.tokenSplit
