/-
  PathUp of layer 8 returns true for every input and leaves its arguments as they were: a segment and two dots behind it are as if neither were there, ahead of others; one dot ahead of others is nothing. Conditions: the two tables of unicode/utf8 lie as their texts lay them (listed by the card), internal/bytealg.MaxLen holds any int.
-/
import Derived.Test.YtbofkmaajhfkeaaDoorCards
import Derived.Test.YtbofkmaajhfkeaaDoorTie
import Derived.WalkKit
import Derived.ProofKit
import Derived.OpenShut
import Derived.ShutString
import Derived.ChangeOld
import Derived.Below
import Derived.Test.YtbofkmaajhfkeaaDoorPaOpen
namespace Go.Proofs.YtbofkmaajhfkeaaDoor.pathUp
open Go.ChangeShapes Go.WideShapes Go.ChangeAt Go.RowKit
open Go.ChangeMaps (open_string shut_string)
open Go.Shelf
open Go.Proofs.YtbofkmaajhfkeaaDoor.Path
set_option linter.unusedSimpArgs false
set_option linter.unusedVariables false

theorem own : ownKnob Tryd.prog.godebug = none := by kernel_rfl
theorem laidOut : laidOutB Tryd.prog = true := by kernel_rfl

theorem take_no (s : ByteArray) (k : Nat) (h : k < s.size) (hp : (47 : UInt8) ∉ s.data.toList.take k) (hd : ((s[k].toNat : Int) == 47) = false) : (47 : UInt8) ∉ s.data.toList.take (k + 1) := by
  rw [Ascii.take_snoc s k h]
  simp only [List.mem_append, List.mem_singleton, not_or]
  refine ⟨hp, fun e => ?_⟩
  rw [← e] at hd
  cases hd
set_option maxRecDepth 100000 in
set_option maxHeartbeats 4000000 in
theorem walk (a0 a1 : ByteArray) (w0 : a0.size ≤ maxLen) (w1 : a1.size ≤ maxLen) (m : Int) (w : World) (hm : MaxAt m w) :
    Calls Tryd.prog 8 #[.string a0, .string a1] w fun e w' => e = .returned (.bool true) ∧ Below w.heap.size w w' := by
  unfold maxLen at w0 w1
  by_cases h0 : a0.size ≤ 100
  case neg =>
    have q : decide ((100 : Int) < (a0.size : Int)) = true := decide_eq_true (by omega)
    go_enter Tryd.func8, Tryd.ntmps8
    go_wp2_with fail
    refine (awake_at hm).mono ?_
    rintro e u1 ⟨rfl, hB1⟩
    go_wp2
    go_ret
    exact ⟨rfl, hB1⟩
  have q0 : decide ((100 : Int) < (a0.size : Int)) = false := decide_eq_false (by omega)
  by_cases h1 : a1.size ≤ 100
  case neg =>
    have q : decide ((100 : Int) < (a1.size : Int)) = true := decide_eq_true (by omega)
    go_enter Tryd.func8, Tryd.ntmps8
    go_wp2_with fail
    refine (awake_at hm).mono ?_
    rintro e u1 ⟨rfl, hB1⟩
    go_wp2
    go_ret
    exact ⟨rfl, hB1⟩
  have q1 : decide ((100 : Int) < (a1.size : Int)) = false := decide_eq_false (by omega)
  have cd := fun u (hu : MaxAt m u) => dots_any a0 (by omega) m u hu
  obtain ⟨d, hd⟩ : ∃ d : Nat, dotsN a0.data.toList = d := ⟨_, rfl⟩
  rw [hd] at cd
  rcases Nat.eq_zero_or_pos d with rfl | hp
  case inr =>
    have q2 : decide ((0 : Int) < (d : Int)) = true := decide_eq_true (by omega)
    have q3 : decide (0 < d) = true := decide_eq_true (by omega)
    clear hd
    go_enter Tryd.func8, Tryd.ntmps8
    go_wp2_with fail
    refine (awake_at hm).mono ?_
    rintro e u1 ⟨rfl, hB1⟩
    go_wp2_with fail
    refine (cd u1 (hm.later hB1)).mono ?_
    rintro e u2 ⟨rfl, hB2⟩
    have hB2' := hB1.trans (hB2.mono hB1.size)
    go_wp2
    go_ret
    exact ⟨rfl, hB2'⟩
  have HD := Lib.hid hd
  clear hd
  go_enter Tryd.func8, Tryd.ntmps8
  go_wp2_with fail
  refine (awake_at hm).mono ?_
  rintro e u1 ⟨rfl, hB1⟩
  go_wp2_with fail
  refine (cd u1 (hm.later hB1)).mono ?_
  rintro e u2 ⟨rfl, hB2⟩
  have hB2' := hB1.trans (hB2.mono hB1.size)
  clear cd
  go_wp2
  go_loop [6] (fun i => ∃ k : Nat, k ≤ a0.size ∧ i = .int .i64 k ∧ (47 : UInt8) ∉ a0.data.toList.take k) (fun i => a0.size - (intOf i).toNat)
  case atStart => exact ⟨0, Nat.zero_le _, rfl, by simp⟩
  case round =>
    obtain ⟨k, hk, rfl, hno⟩ := hrel
    have HNO := Lib.hid hno
    clear hno
    by_cases hlt : k < a0.size
    · cases he : ((a0[k].toNat : Int) == 47)
      · have HE := Lib.hid (take_no a0 k hlt HNO.out he)
        go_wp2
        go_round
        case rel => exact ⟨k + 1, by omega, by go_num, HE.out⟩
        case measure => simp [intOf]; omega
      · go_wp2
        go_ret
        exact ⟨rfl, hB2'⟩
    · obtain rfl : k = a0.size := by omega
      have hna : (47 : UInt8) ∉ a0.data.toList := by
        have := HNO.out
        rwa [List.take_of_length_le (by exact Nat.le_refl _)] at this
      have HNA := Lib.hid hna
      clear hna HNO
      have z1 : (⟨#[47]⟩ ++ a1 : ByteArray).size ≤ 200 := by rw [ByteArray.size_append, show (⟨#[47]⟩ : ByteArray).size = 1 from rfl]; omega
      have z0 : (⟨#[47]⟩ ++ a0 : ByteArray).size ≤ 200 := by rw [ByteArray.size_append, show (⟨#[47]⟩ : ByteArray).size = 1 from rfl]; omega
      have z2 : ((⟨#[47]⟩ ++ a0) ++ ⟨#[47, 46, 46, 47]⟩ : ByteArray).size ≤ 300 := by rw [ByteArray.size_append, show (⟨#[47, 46, 46, 47]⟩ : ByteArray).size = 4 from rfl]; omega
      go_wp2_with fail
      refine (parse_any _ (by omega) m u2 (hm.later hB2')).mono ?_
      rintro e u3 ⟨x, rfl, hx, hB3⟩
      rw [text_append, show (⟨#[47]⟩ : ByteArray).data.toList ++ a1.data.toList = 47 :: a1.data.toList from rfl] at hx
      have hB3' := hB2'.trans (hB3.mono hB2'.size)
      have hxs := hx
      obtain ⟨ax, cx, rfl, _⟩ := hxs
      have e1 := up_one a0.data.toList a1.data.toList HNA.out HD.out
      have e2 := up_two a1.data.toList
      have e3 := up_three a1.data.toList
      generalize parse (47 :: a1.data.toList) = P at hx e1 e2 e3
      have E1 := Lib.hid e1
      have E2 := Lib.hid e2
      have E3 := Lib.hid e3
      clear e1 e2 e3
      go_wp2_with fail
      refine (parse_any _ (by rw [ByteArray.size_append]; omega) m u3 (hm.later hB3')).mono ?_
      rintro e u4 ⟨y, rfl, hy, hB4⟩
      rw [text_append, text_append, text_append, show ((⟨#[47]⟩ : ByteArray).data.toList ++ a0.data.toList ++ (⟨#[47, 46, 46, 47]⟩ : ByteArray).data.toList) ++ a1.data.toList = 47 :: (a0.data.toList ++ 47 :: 46 :: 46 :: 47 :: a1.data.toList) by simp, E1.out] at hy
      have hB4' := hB3'.trans (hB4.mono hB3'.size)
      have hx4 := hx.later hB4
      have hys := hy
      obtain ⟨ay, cy, rfl, _⟩ := hys
      go_wp2_with fail
      refine (same_any _ _ P P u4 hy hx4).mono ?_
      rintro e u5 ⟨rfl, hB5⟩
      rw [show decide (P = P) = true by simp]
      have hB5' := hB4'.trans (hB5.mono hB4'.size)
      have hx5 := hx4.later hB5
      clear hx hx4 hy
      go_wp2_with fail
      refine (parse_any _ (by rw [ByteArray.size_append, show (⟨#[47, 46, 47]⟩ : ByteArray).size = 3 from rfl]; omega) m u5 (hm.later hB5')).mono ?_
      rintro e u6 ⟨y, rfl, hy, hB6⟩
      rw [text_append, show (⟨#[47, 46, 47]⟩ : ByteArray).data.toList ++ a1.data.toList = 47 :: 46 :: 47 :: a1.data.toList by simp, E2.out] at hy
      have hB6' := hB5'.trans (hB6.mono hB5'.size)
      have hx6 := hx5.later hB6
      have hys := hy
      obtain ⟨ay', cy', rfl, _⟩ := hys
      go_wp2_with fail
      refine (same_any _ _ P P u6 hy hx6).mono ?_
      rintro e u7 ⟨rfl, hB7⟩
      rw [show decide (P = P) = true by simp]
      have hB7' := hB6'.trans (hB7.mono hB6'.size)
      have hx7 := hx6.later hB7
      clear hx5 hx6 hy
      go_wp2_with fail
      refine (parse_any _ (by rw [ByteArray.size_append, show (⟨#[47, 46, 46, 47, 37, 50, 101, 37, 50, 69, 47]⟩ : ByteArray).size = 11 from rfl]; omega) m u7 (hm.later hB7')).mono ?_
      rintro e u8 ⟨y, rfl, hy, hB8⟩
      rw [text_append, show (⟨#[47, 46, 46, 47, 37, 50, 101, 37, 50, 69, 47]⟩ : ByteArray).data.toList ++ a1.data.toList = 47 :: 46 :: 46 :: 47 :: 37 :: 50 :: 101 :: 37 :: 50 :: 69 :: 47 :: a1.data.toList by simp, E3.out] at hy
      have hB8' := hB7'.trans (hB8.mono hB7'.size)
      have hx8 := hx7.later hB8
      have hys := hy
      obtain ⟨ay'', cy'', rfl, _⟩ := hys
      go_wp2_with fail
      refine (same_any _ _ P P u8 hy hx8).mono ?_
      rintro e u9 ⟨rfl, hB9⟩
      rw [show decide (P = P) = true by simp]
      have hB9' := hB8'.trans (hB9.mono hB8'.size)
      clear hx7 hx8 hy
      go_wp2
      go_ret
      exact ⟨rfl, hB9'⟩

/-! ### The row's step -/
theorem reads (os : Os) {H : Type} (enc : TypeId × Value → H) : (DataW.whole enc Tryd.prog ((Card.laidWorld os).forCall (fun _ _ => 0) ⟨#[], #[.string ByteArray.empty, .string ByteArray.empty], []⟩).memory Tryd.f8.params.toList Rows.pathUpSpec.vars false (#[.string ByteArray.empty, .string ByteArray.empty] : Array Value).toList 8).map (fun x => (x.1, x.2.1)) = some ([.lit (.string []), .lit (.string [])], []) := by kernel_rfl
set_option maxRecDepth 100000 in
theorem lifted (os : Os) (started : os.Started) (H : Type) (enc : TypeId × Value → H) (F : Stop.Interp) :
    ReturnsInHanded {} Tryd.checked os 8 .any ((OpenSpec.ofChange Rows.pathUpSpec).preRow enc Tryd.prog Tryd.f8 Rows.pathUpRow.domain false Rows.pathUpRow.laid) (((OpenSpec.ofChange Rows.pathUpSpec).at F).post enc Tryd.prog Tryd.f8 false true false false) := by
  obtain ⟨⟨x1, x2, x3⟩, hx, hx1⟩ := Option.map_eq_some_iff.1 (reads os enc)
  simp only [Prod.mk.injEq] at hx1
  obtain ⟨rfl, rfl⟩ := hx1
  refine returnsInHanded_of_row (C := Tryd.checked) (s := OpenSpec.ofChange Rows.pathUpSpec) own started (by kernel_rfl) Tryd.func8
    (witness_row_at (enc := enc) (C := Tryd.checked) false (Card.laidWorld os) #[.string ByteArray.empty, .string ByteArray.empty] rfl (by kernel_rfl) (by kernel_rfl) (by kernel_rfl)
      (OpenSpec.preRow_of_cond 8 hx (by kernel_rfl) (fun k hk => by cases hk) (by kernel_rfl) (Card.laid_met os _))) ?_
  intro W base args ds gs before hval0 hW _ _ _ hL hsh _
  obtain ⟨m, hm⟩ := Card.maxLen_int hsh
  have hval : ∀ (j : Nat) t v, Tryd.f8.params[j]? = some t → args[j]? = some v → Value.okWide Tryd.prog W .any base t v := hval0
  have hW' := hW
  obtain ⟨p, q, hA0, hV, rfl, hfz, hnd⟩ := hW
  have hA : DataW.TrodAll enc Tryd.prog W 0 (fun _ => true) true Tryd.f8.params.toList args.toList ds p := hA0
  rw [Tryd.params8] at hA hval
  obtain ⟨v0, vs0, d0, ds0, p0, q0, hargs0, rfl, rfl, t0, r0⟩ := trodAll_cons hA
  obtain ⟨v1, vs1, d1, ds1, p1, q1, hargs1, rfl, rfl, t1, r1⟩ := trodAll_cons r0
  obtain ⟨rfl, rfl, rfl⟩ := trodAll_nil r1
  obtain rfl : args = #[v0, v1] := by cases args; simp_all
  obtain ⟨rfl, rfl⟩ := trodVars_none hV
  obtain ⟨a0, rfl, rfl, rfl, w0⟩ := open_string Tryd.underlying9 (hval 0 9 v0 rfl rfl) t0
  obtain ⟨a1, rfl, rfl, rfl, w1⟩ := open_string Tryd.underlying9 (hval 1 9 v1 rfl rfl) t1
  clear hA0 hval0
  simp only [List.append_nil] at hW'
  refine (walk a0 a1 w0 w1 m W hm ).mono fun e W' ⟨he, bel⟩ => ?_
  subst he
  exact ⟨_, rfl, _, _, _, [], _, [], hW', trodAll_mk1 (shut_bool Tryd.underlying4 _), (trodAll_cons_mk (shut_string Tryd.underlying9 w0) (trodAll_cons_mk (shut_string Tryd.underlying9 w1) trodAll_mk0)), rfl, bel.frame _, fun h => by cases h⟩

theorem said : Rows.pathUpRow.holds Tryd.pinned (OpenSpec.ofChange Rows.pathUpSpec) :=
  OpenClaim.holds_of_cond 8 Tryd.f8 rfl rfl rfl rfl rfl rfl rfl ⟨rfl, rfl, rfl, rfl, rfl⟩ rfl rfl rfl rfl rfl (by kernel_rfl) Tryd.func8 (by kernel_rfl)
    (of_decide_eq_true (by kernel_rfl)) (by unfold Func.isWrapper; first | (rw [if_pos (by decide +kernel)]; kernel_rfl) | (rw [if_neg (by decide +kernel)]; exact ⟨rfl, rfl⟩))
    (fun os started H enc _ F => by rw [OpenClaim.pre_eq_preRow]; exact lifted os started H enc F)

/-- No parameter wants a stand-in; the program's own looks are off. -/
theorem plain (f : FuncId) (fn : Func) (hf : Tryd.pinned.checked.prog.funcNamed Rows.pathUpRow.func = some f) (hfn : Tryd.pinned.checked.prog.funcs[f]? = some fn) :
    false = Tryd.pinned.checked.prog.looks [] ∧ ∀ (j : Nat) t, fn.params[j]? = some t → Tryd.pinned.checked.prog.wantsStandIn t = false := by
  obtain rfl : f = 8 := Option.some.inj ((show Tryd.prog.funcNamed Rows.pathUpRow.func = some 8 by kernel_rfl).symm.trans hf) |>.symm
  obtain rfl : fn = Tryd.f8 := (Option.some.inj (Tryd.func8.symm.trans hfn)).symm
  refine ⟨by kernel_rfl, fun j t ht => ?_⟩
  rw [Tryd.params8] at ht
  obtain rfl : t = 9 := by simpa using Array.mem_of_getElem? ht
  · exact (show Tryd.prog.wantsStandIn 9 = false by kernel_rfl)

/-- The statement: the card. -/
theorem proved : Rows.PathUpCardSaid :=
  Claim7.holds_tied_plain_at .later [] _ _ _ _ said (fun _ h => by cases h) (by kernel_rfl) (fun _ h => by cases h) pathUp_row_tie rfl ⟨rfl, rfl⟩ (by kernel_rfl) rfl plain (by kernel_rfl)
#print axioms proved
end Go.Proofs.YtbofkmaajhfkeaaDoor.pathUp
