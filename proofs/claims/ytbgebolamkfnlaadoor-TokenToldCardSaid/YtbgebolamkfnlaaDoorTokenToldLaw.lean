/-
  For every input the law TokenTold (P14.3, P14.4, P13.3) answers true, and its arguments read as before: of fields just those of that name count, in order, as one list. Conditions: the two tables of unicode/utf8 and package token's table of names lie as their texts lay them (listed by the card), internal/bytealg.MaxLen holds any int.
-/
import Derived.Test.YtbgebolamkfnlaaDoorCards
import Derived.Test.YtbgebolamkfnlaaDoorTie
import Derived.WalkKit
import Derived.ProofKit
import Derived.OpenShut
import Derived.ShutString
import Derived.ChangeOld
import Derived.Below
import Derived.SizedLaws
import Derived.Test.YtbgebolamkfnlaaDoorTkOpen
namespace Go.Proofs.YtbgebolamkfnlaaDoor.tokenTold
open Go.ChangeShapes Go.WideShapes Go.ChangeAt Go.RowKit
open Go.ChangeMaps (open_string shut_string)
open Go.Shelf
open Go.Proofs.YtbgebolamkfnlaaDoor.Token
set_option linter.unusedSimpArgs false
set_option linter.unusedVariables false

theorem own : ownKnob Tryd.prog.godebug = none := by kernel_rfl
theorem laidOut : laidOutB Tryd.prog = true := by kernel_rfl

open Head
set_option maxRecDepth 100000
set_option maxHeartbeats 16000000 in
theorem walk (v0 : Value) (l0 : List F) (a1 : ByteArray) (a2 : ByteArray) (w1 : a1.size ≤ maxLen) (w2 : a2.size ≤ maxLen) (m : Int) (w : World) (hm : Token.TokAt m w) (w0 : Flds w v0 l0) :
    Calls Tryd.prog 6 #[v0, .string a1, .string a2] w fun e w' => e = .returned (.bool true) ∧ Below w.heap.size w w' := by
  have HM0 := Lib.hid hm
  have HF0_0 := Lib.hid w0
  obtain ⟨ax0, cx0, rfl, -⟩ := w0
  clear hm
  go_enter Tryd.func6, Tryd.ntmps6
  go_wp2_with fail
  refine (Token.awake_calls m w HM0.out).mono ?_
  rintro e X1 ⟨rfl, hB⟩
  have HB1 := Lib.hid (hB)
  have HM1 := Lib.hid (HM0.out.later hB)
  have HF0_1 := Lib.hid (HF0_0.out.later hB)
  clear HM0 HF0_0
  clear hB
  go_wp2_with fail
  refine (few_any _ l0 X1 HF0_1.out).mono ?_
  rintro e X' ⟨rfl, rfl⟩
  obtain ⟨b0, hb0⟩ : ∃ b, fewF l0 = b := ⟨_, rfl⟩
  rw [hb0]
  cases b0
  rotate_left
  rotate_left
  · go_wp2
    go_ret
    exact ⟨rfl, HB1.out⟩
  obtain ⟨hl0, hs0⟩ := few_of hb0
  have HS0 := Lib.hid (few_big hs0)
  have HT0 := Lib.hid hs0
  clear hb0 hs0
  rcases Nat.lt_or_ge 300 a1.size with h1 | h1
  · have q : decide ((300 : Int) < (a1.size : Int)) = true := decide_eq_true (by omega)
    go_wp2
    go_ret
    exact ⟨rfl, HB1.out⟩
  have q1 : decide ((300 : Int) < (a1.size : Int)) = false := decide_eq_false (by omega)
  rcases Nat.lt_or_ge 300 a2.size with h2 | h2
  · have q : decide ((300 : Int) < (a2.size : Int)) = true := decide_eq_true (by omega)
    go_wp2
    go_ret
    exact ⟨rfl, HB1.out⟩
  have q2 : decide ((300 : Int) < (a2.size : Int)) = false := decide_eq_false (by omega)
  have HTM := Lib.hid (show ∀ f ∈ (l0 ++ [(a1.data.toList, a2.data.toList)]), f.1.length ≤ 300 ∧ f.2.length ≤ 300 from fun f hf => by
    rcases List.mem_append.1 hf with h | h
    · exact HT0.out f h
    · obtain rfl : f = (a1.data.toList, a2.data.toList) := by simpa using h
      exact ⟨h1, h2⟩)
  have HSM := Lib.hid (few_big HTM.out)
  have hlm : (l0 ++ [(a1.data.toList, a2.data.toList)]).length ≤ 61 := by rw [List.length_append]; show _ + 1 ≤ _; omega
  have hgm := Token.get_size (l0 ++ [(a1.data.toList, a2.data.toList)]) Token.rp hlm HTM.out
  have hg0 := Token.get_size l0 Token.rp (by omega) HT0.out
  have hgd := Token.get_size (dropL l0 [Token.rp]) Token.rp (Nat.le_trans (drop_len _ _) (by omega)) (fun f hf => HT0.out f (drop_mem _ _ f hf))
  have HD := Lib.hid (Token.told_drop l0)
  have hz := Token.told_more l0 a1.data.toList a2.data.toList
  have c0 := fun u (hm : Token.TokAt m u) (hu : Flds u (.slice ax0 l0.length cx0) l0) => Token.told_any _ l0 (by omega) HS0.out hg0 m u hm hu
  have cM := fun u va (hm : Token.TokAt m u) (hu : Flds u va (l0 ++ [(a1.data.toList, a2.data.toList)])) => Token.told_any va (l0 ++ [(a1.data.toList, a2.data.toList)]) (by omega) HSM.out hgm m u hm hu
  have cL := fun u (hm : Token.TokAt m u) => Token.last_any a2 (by omega) m u hm
  have cS := fun u => Ascii.same_calls a1 ⟨#[114, 101, 102, 101, 114, 114, 101, 114, 45, 112, 111, 108, 105, 99, 121]⟩ w1 (by omega) (by decide) (by decide) u
  rw [show Ascii.lower (⟨#[114, 101, 102, 101, 114, 114, 101, 114, 45, 112, 111, 108, 105, 99, 121]⟩ : ByteArray).data.toList = Token.rpl by decide +kernel] at cS
  have hlt := Token.told_lt l0
  have hlt2 := Token.last_lt a2.data.toList
  rw [hz] at cM
  generalize Token.toldB l0 = p at c0 cM hlt
  generalize Token.lastB a2.data.toList = t at cL cM hlt2
  obtain ⟨z, hzz⟩ : ∃ z, (Ascii.lower a1.data.toList == Token.rpl) = z := ⟨_, rfl⟩
  rw [hzz] at cS
  have HQ := Lib.hid (show (if Ascii.lower a1.data.toList = Token.rpl ∧ t ≠ 0 then t else p) = (if z = true ∧ t ≠ 0 then t else p) by rw [← hzz]; simp only [beq_iff_eq])
  rw [HQ.out] at cM
  obtain ⟨U, hU⟩ : ∃ U, (if z = true ∧ t ≠ 0 then t else p) = U := ⟨_, rfl⟩
  rw [hU] at cM
  have HU := Lib.hid hU
  have hrpm : ∀ t ∈ [Token.rp], t.length ≤ 1000000 := by decide
  clear hz hg0 hgm hzz HQ hlt hlt2 hU
  have OW1 := Lib.hid (OwnF.start X1)
  have HC1 := Lib.hid (Below.refl X1.heap.size X1)
  have SHB := HB1
  have SHM := HM1
  have SHF0_ := HF0_1
  go_wp2_with (at_builtin; refine wp_app_flds rfl _ _ rfl rfl OW1.out rfl HF0_1.out (by rw [List.length_nil]; omega) ?_)
  intro va1 X2 hO hBb
  have hT := HC1.out.trans hBb
  try rw [List.nil_append] at hO
  have HM2' := Lib.hid (SHM.out.later hT)
  have HF0_2' := Lib.hid (SHF0_.out.later hT)
  have HB2 := Lib.hid (Ascii.below2 SHB.out hT)
  clear HB1 HC1 HM1 HF0_1 OW1
  have HM2 := HM2'
  clear HM2'
  have HF0_2 := HF0_2'
  clear HF0_2'
  have OW2 := Lib.hid hO
  have HC2 := Lib.hid hT
  clear hO hBb hT
  have hBA := (Below.refl X2.heap.size X2).alloc (Nat.le_refl _) (.cells #[.string a1, .string a2] 36)
  have hF1 := flds_one X2 a1 a2
  have hOA := OW2.out.later hBA
  go_wp2_with (at_builtin; refine wp_app_flds rfl _ _ rfl rfl hOA rfl hF1 (by simp; omega) ?_)
  intro va X3 hO hBb
  have hT := (HC2.out.alloc HC2.out.size _).trans hBb
  clear hBA hF1 hOA
  have HM3' := Lib.hid (SHM.out.later hT)
  have HF0_3' := Lib.hid (SHF0_.out.later hT)
  have HB3 := Lib.hid (Ascii.below2 SHB.out hT)
  clear HB2 HC2 HM2 HF0_2 OW2
  have HM3 := HM3'
  clear HM3'
  have HF0_3 := HF0_3'
  clear HF0_3'
  have OW3 := Lib.hid hO
  have HC3 := Lib.hid hT
  clear hO hBb hT
  have HA_3 := Lib.hid (OW3.out.flds)
  clear OW3 HC3 SHB SHM SHF0_
  go_wp2_with fail
  refine (c0 _ HM3.out HF0_3.out).mono ?_
  rintro e X4 ⟨rfl, hB⟩
  have HB4 := Lib.hid (Ascii.below2 HB3.out hB)
  have HM4 := Lib.hid (HM3.out.later hB)
  have HF0_4 := Lib.hid (HF0_3.out.later hB)
  have HA_4 := Lib.hid (HA_3.out.later hB)
  clear HB3 HM3 HF0_3 HA_3
  clear hB 
  go_wp2_with fail
  refine (cM _ _ HM4.out HA_4.out).mono ?_
  rintro e X5 ⟨rfl, hB⟩
  clear HA_4
  have HB5 := Lib.hid (Ascii.below2 HB4.out hB)
  have HM5 := Lib.hid (HM4.out.later hB)
  have HF0_5 := Lib.hid (HF0_4.out.later hB)
  clear HB4 HM4 HF0_4
  clear hB 
  go_wp2_with fail
  refine (cS _).mono ?_
  rintro e X6 ⟨rfl, hB⟩
  have HB6 := Lib.hid (Ascii.below2 HB5.out hB)
  have HM6 := Lib.hid (HM5.out.later hB)
  have HF0_6 := Lib.hid (HF0_5.out.later hB)
  clear HB5 HM5 HF0_5
  clear hB 
  go_wp2_with fail
  refine (cL _ HM6.out).mono ?_
  rintro e X7 ⟨rfl, hB⟩
  have HB7 := Lib.hid (Ascii.below2 HB6.out hB)
  have HM7 := Lib.hid (HM6.out.later hB)
  have HF0_7 := Lib.hid (HF0_6.out.later hB)
  clear HB6 HM6 HF0_6
  clear hB 
  clear cM cS cL c0
  cases z
  · obtain rfl : p = U := by rw [← HU.out, if_neg (by simp)]
    go_wp2_with fail
    have hZ := (Below.refl X7.heap.size X7).alloc (Nat.le_refl _) (.cells #[.string ⟨#[82, 101, 102, 101, 114, 114, 101, 114, 45, 80, 111, 108, 105, 99, 121]⟩] 9)
    have cD := drop_any _ l0 (by omega) HS0.out _ [Token.rp] (by simp) hrpm _ (HF0_7.out.later hZ) (strs_one X7 ⟨#[82, 101, 102, 101, 114, 114, 101, 114, 45, 80, 111, 108, 105, 99, 121]⟩)
    refine cD.mono ?_
    rintro e X8 ⟨vd, rfl, hD, hB0⟩
    have hB := Ascii.below2 hZ hB0
    have hsh := hD
    obtain ⟨ad, cd, rfl, -⟩ := hsh
    have HB8 := Lib.hid (Ascii.below2 HB7.out hB)
    have HM8 := Lib.hid (HM7.out.later hB)
    have HF0_8 := Lib.hid (HF0_7.out.later hB)
    have HDr8 := Lib.hid (hD)
    clear HB7 HM7 HF0_7
    clear hB hB0 hZ hD cD
    go_wp2_with fail
    have cE := Token.told_any _ (dropL l0 [Token.rp]) (Nat.le_trans (drop_len _ _) (by omega)) (fun f hf => HS0.out f (drop_mem _ _ f hf)) hgd m X8 HM8.out HDr8.out
    rw [HD.out] at cE
    refine (cE).mono ?_
    rintro e X9 ⟨rfl, hB⟩
    have HB9 := Lib.hid (Ascii.below2 HB8.out hB)
    have HM9 := Lib.hid (HM8.out.later hB)
    have HF0_9 := Lib.hid (HF0_8.out.later hB)
    have HDr9 := Lib.hid (HDr8.out.later hB)
    clear HB8 HM8 HF0_8 HDr8
    clear hB 
    go_wp2
    go_ret
    exact ⟨rfl, HB9.out⟩
  by_cases ht : t = 0
  · subst ht
    obtain rfl : p = U := by rw [← HU.out, if_neg (by simp)]
    go_wp2_with fail
    have hZ := (Below.refl X7.heap.size X7).alloc (Nat.le_refl _) (.cells #[.string ⟨#[82, 101, 102, 101, 114, 114, 101, 114, 45, 80, 111, 108, 105, 99, 121]⟩] 9)
    have cD := drop_any _ l0 (by omega) HS0.out _ [Token.rp] (by simp) hrpm _ (HF0_7.out.later hZ) (strs_one X7 ⟨#[82, 101, 102, 101, 114, 114, 101, 114, 45, 80, 111, 108, 105, 99, 121]⟩)
    refine cD.mono ?_
    rintro e X8 ⟨vd, rfl, hD, hB0⟩
    have hB := Ascii.below2 hZ hB0
    have hsh := hD
    obtain ⟨ad, cd, rfl, -⟩ := hsh
    have HB8 := Lib.hid (Ascii.below2 HB7.out hB)
    have HM8 := Lib.hid (HM7.out.later hB)
    have HF0_8 := Lib.hid (HF0_7.out.later hB)
    have HDr8 := Lib.hid (hD)
    clear HB7 HM7 HF0_7
    clear hB hB0 hZ hD cD
    go_wp2_with fail
    have cE := Token.told_any _ (dropL l0 [Token.rp]) (Nat.le_trans (drop_len _ _) (by omega)) (fun f hf => HS0.out f (drop_mem _ _ f hf)) hgd m X8 HM8.out HDr8.out
    rw [HD.out] at cE
    refine (cE).mono ?_
    rintro e X9 ⟨rfl, hB⟩
    have HB9 := Lib.hid (Ascii.below2 HB8.out hB)
    have HM9 := Lib.hid (HM8.out.later hB)
    have HF0_9 := Lib.hid (HF0_8.out.later hB)
    have HDr9 := Lib.hid (HDr8.out.later hB)
    clear HB8 HM8 HF0_8 HDr8
    clear hB 
    go_wp2
    go_ret
    exact ⟨rfl, HB9.out⟩
  obtain rfl : t = U := by rw [← HU.out, if_pos ⟨rfl, ht⟩]
  have qt : ((t : Int) == 0) = false := by rw [beq_eq_false_iff_ne]; omega
  clear ht
  go_wp2
  go_ret
  exact ⟨rfl, HB7.out⟩

/-! ### The row's step -/
theorem reads (os : Os) {H : Type} (enc : TypeId × Value → H) : (DataW.whole enc Tryd.prog ((Card.laidWorld os).forCall (fun _ _ => 0) ⟨#[], #[.slice none 0 0, .string ByteArray.empty, .string ByteArray.empty], []⟩).memory Tryd.f6.params.toList Rows.tokenToldSpec.vars false (#[.slice none 0 0, .string ByteArray.empty, .string ByteArray.empty] : Array Value).toList 8).map (fun x => (x.1, x.2.1)) = some ([.nil, .lit (.string []), .lit (.string [])], []) := by kernel_rfl
set_option maxRecDepth 100000 in
theorem lifted (os : Os) (started : os.Started) (H : Type) (enc : TypeId × Value → H) (F : Stop.Interp) :
    ReturnsInHanded {} Tryd.checked os 6 .any ((OpenSpec.ofChange Rows.tokenToldSpec).preRow enc Tryd.prog Tryd.f6 Rows.tokenToldRow.domain false Rows.tokenToldRow.laid) (((OpenSpec.ofChange Rows.tokenToldSpec).at F).post enc Tryd.prog Tryd.f6 false true false false) := by
  obtain ⟨⟨x1, x2, x3⟩, hx, hx1⟩ := Option.map_eq_some_iff.1 (reads os enc)
  simp only [Prod.mk.injEq] at hx1
  obtain ⟨rfl, rfl⟩ := hx1
  refine returnsInHanded_of_row (C := Tryd.checked) (s := OpenSpec.ofChange Rows.tokenToldSpec) own started (by kernel_rfl) Tryd.func6
    (witness_row_at (enc := enc) (C := Tryd.checked) false (Card.laidWorld os) #[.slice none 0 0, .string ByteArray.empty, .string ByteArray.empty] rfl (by kernel_rfl) (by kernel_rfl) (by kernel_rfl)
      (OpenSpec.preRow_of_cond 8 hx (by kernel_rfl) (fun k hk => by cases hk) (by kernel_rfl) (Card.laid_met os _))) ?_
  intro W base args ds gs before hval0 hW _ _ hw0 hL hsh _
  obtain ⟨m, hm⟩ := Card.maxLen_int hsh
  have hm := Token.tok_of hm hL
  have hval : ∀ (j : Nat) t v, Tryd.f6.params[j]? = some t → args[j]? = some v → Value.okWide Tryd.prog W .any base t v := hval0
  have hW' := hW
  obtain ⟨p, q, hA0, hV, rfl, hfz, hnd⟩ := hW
  have hA : DataW.TrodAll enc Tryd.prog W 0 (fun _ => true) true Tryd.f6.params.toList args.toList ds p := hA0
  rw [Tryd.params6] at hA hval
  obtain ⟨v0, vs0, d0, ds0, p0, q0, hargs0, rfl, rfl, t0, r0⟩ := trodAll_cons hA
  obtain ⟨v1, vs1, d1, ds1, p1, q1, hargs1, rfl, rfl, t1, r1⟩ := trodAll_cons r0
  obtain ⟨v2, vs2, d2, ds2, p2, q2, hargs2, rfl, rfl, t2, r2⟩ := trodAll_cons r1
  obtain ⟨rfl, rfl, rfl⟩ := trodAll_nil r2
  obtain rfl : args = #[v0, v1, v2] := by cases args; simp_all
  obtain ⟨rfl, rfl⟩ := trodVars_none hV
  obtain ⟨a0, len0, cap0, rfl⟩ := okWide_slice Tryd.underlying22 (hval 0 22 v0 rfl rfl)
  have k0 := t0
  have lt0 : ∀ x ∈ p0, x.block < W.heap.size := by obtain ⟨m, hm⟩ := k0; exact DataW.trod_lt m _ _ _ hm
  obtain ⟨z0, w0⟩ := Head.open_flds t0
  obtain ⟨a1, rfl, rfl, rfl, w1⟩ := open_string Tryd.underlying9 (hval 1 9 v1 rfl rfl) t1
  obtain ⟨a2, rfl, rfl, rfl, w2⟩ := open_string Tryd.underlying9 (hval 2 9 v2 rfl rfl) t2
  clear hA0 hval0
  simp only [List.append_nil] at hW'
  refine (walk (.slice a0 len0 cap0) z0 a1 a2 w1 w2 m W hm w0).mono fun e W' ⟨he, bel⟩ => ?_
  subst he
  exact ⟨_, rfl, _, _, _, [], _, [], hW', trodAll_mk1 (shut_bool Tryd.underlying4 _), (trodAll_cons_mk (Below.trod laidOut (by kernel_rfl) (of_decide_eq_true (by kernel_rfl)) k0 bel lt0) (trodAll_cons_mk (shut_string Tryd.underlying9 w1) (trodAll_cons_mk (shut_string Tryd.underlying9 w2) trodAll_mk0))), rfl, bel.frame _, fun h => by cases h⟩

theorem said : Rows.tokenToldRow.holds Tryd.pinned (OpenSpec.ofChange Rows.tokenToldSpec) :=
  OpenClaim.holds_of_cond 6 Tryd.f6 rfl rfl rfl rfl rfl rfl rfl ⟨rfl, rfl, rfl, rfl, rfl⟩ rfl rfl rfl rfl rfl (by kernel_rfl) Tryd.func6 (by kernel_rfl)
    (of_decide_eq_true (by kernel_rfl)) (by unfold Func.isWrapper; first | (rw [if_pos (by decide +kernel)]; kernel_rfl) | (rw [if_neg (by decide +kernel)]; exact ⟨rfl, rfl⟩))
    (fun os started H enc _ F => by rw [OpenClaim.pre_eq_preRow]; exact lifted os started H enc F)

/-- No parameter wants a stand-in; the program's own looks are off. -/
theorem plain (f : FuncId) (fn : Func) (hf : Tryd.pinned.checked.prog.funcNamed Rows.tokenToldRow.func = some f) (hfn : Tryd.pinned.checked.prog.funcs[f]? = some fn) :
    false = Tryd.pinned.checked.prog.looks [] ∧ ∀ (j : Nat) t, fn.params[j]? = some t → Tryd.pinned.checked.prog.wantsStandIn t = false := by
  obtain rfl : f = 6 := Option.some.inj ((show Tryd.prog.funcNamed Rows.tokenToldRow.func = some 6 by kernel_rfl).symm.trans hf) |>.symm
  obtain rfl : fn = Tryd.f6 := (Option.some.inj (Tryd.func6.symm.trans hfn)).symm
  refine ⟨by kernel_rfl, fun j t ht => ?_⟩
  rw [Tryd.params6] at ht
  obtain rfl | rfl : t = 22 ∨ t = 9 := by simpa using Array.mem_of_getElem? ht
  · exact (show Tryd.prog.wantsStandIn 22 = false by kernel_rfl)
  · exact (show Tryd.prog.wantsStandIn 9 = false by kernel_rfl)

/-- The statement: the card. -/
theorem proved : Rows.TokenToldCardSaid :=
  Claim7.holds_tied_plain_at .later [] _ _ _ _ said (fun _ h => by cases h) (by kernel_rfl) (fun _ h => by cases h) tokenTold_row_tie rfl ⟨rfl, rfl⟩ (by kernel_rfl) rfl plain (by kernel_rfl)
#print axioms proved
end Go.Proofs.YtbgebolamkfnlaaDoor.tokenTold
