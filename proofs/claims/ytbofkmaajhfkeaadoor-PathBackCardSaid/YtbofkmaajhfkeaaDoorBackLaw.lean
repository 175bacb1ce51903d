/-
  PathBack of layer 8 returns true for every input and leaves its arguments as they were: what is parsed may be, and, shown, is parsed again; what may be is shown, and parsed to itself. Conditions: the two tables of unicode/utf8 lie as their texts lay them (listed by the card), internal/bytealg.MaxLen holds any int.
-/
import Derived.Test.YtbofkmaajhfkeaaDoorCards
import Derived.Test.YtbofkmaajhfkeaaDoorTie
import Derived.WalkKit
import Derived.ProofKit
import Derived.OpenShut
import Derived.ShutString
import Derived.ChangeOld
import Derived.Below
import Derived.Test.YtbofkmaajhfkeaaDoorPaOpen
namespace Go.Proofs.YtbofkmaajhfkeaaDoor.pathBack
open Go.ChangeShapes Go.WideShapes Go.ChangeAt Go.RowKit
open Go.ChangeMaps (open_string shut_string)
open Go.Shelf
open Go.Proofs.YtbofkmaajhfkeaaDoor.Path
set_option linter.unusedSimpArgs false
set_option linter.unusedVariables false

theorem own : ownKnob Tryd.prog.godebug = none := by kernel_rfl
theorem laidOut : laidOutB Tryd.prog = true := by kernel_rfl

set_option maxRecDepth 100000 in
set_option maxHeartbeats 4000000 in
theorem walk (a0 : ByteArray) (v1 : Value) (l1 : List T) (w0 : a0.size ≤ maxLen) (m : Int) (w : World) (hm : MaxAt m w) (h1 : Strs w v1 l1) :
    Calls Tryd.prog 3 #[.string a0, v1] w fun e w' => e = .returned (.bool true) ∧ Below w.heap.size w w' := by
  unfold maxLen at w0
  have h1' := h1
  obtain ⟨a1, c1, rfl, _⟩ := h1'
  go_enter Tryd.func3, Tryd.ntmps3
  go_wp2_with fail
  refine (awake_at hm).mono ?_
  rintro e u1 ⟨rfl, hB1⟩
  go_wp2_with fail
  refine (few_any _ l1 u1 (h1.later hB1)).mono ?_
  rintro e u1' ⟨rfl, rfl⟩
  cases hf : fewB l1
  · clear hf
    go_wp2
    go_ret
    exact ⟨rfl, hB1⟩
  obtain ⟨f1, f2⟩ := (few_iff l1).1 hf
  have hsl := few_show l1 hf
  clear hf
  by_cases h300 : a0.size ≤ 300
  · have q : decide ((300 : Int) < (a0.size : Int)) = false := decide_eq_false (by omega)
    go_wp2_with fail
    refine (parse_any a0 (by omega) m u1 (hm.later hB1)).mono ?_
    rintro e u2 ⟨x, rfl, hx, hB2⟩
    have hmay := parse_may a0.data.toList
    have hpl : (show1 (parse a0.data.toList)).length ≤ 901 := by
      have h := parse_show_len a0.data.toList
      have hal : a0.data.toList.length = a0.size := rfl
      omega
    generalize parse a0.data.toList = P at hx hmay hpl
    have hP1 := show_count P
    have hP2 := show_each P
    have hpar := parse_show P hmay
    have hB2' := hB1.trans (hB2.mono hB1.size)
    have hxs := hx
    obtain ⟨ax, cx, rfl, _⟩ := hxs
    have HPAR := Lib.hid hpar
    have HMAY := Lib.hid hmay
    clear hpar hmay
    go_wp2_with fail
    refine (show_any _ P (by omega) (fun t ht => by have := hP2 t ht; omega) u2 hx).mono ?_
    rintro e u3 ⟨rfl, hB3⟩
    have hB3' := hB2'.trans (hB3.mono hB2'.size)
    go_wp2_with fail
    refine (parse_any ⟨(show1 P).toArray⟩ (by rw [size_tx]; omega) m u3 (hm.later hB3')).mono ?_
    rintro e u4 ⟨y, rfl, hy, hB4⟩
    rw [show (⟨(show1 P).toArray⟩ : ByteArray).data.toList = show1 P from rfl, HPAR.out] at hy
    have hB4' := hB3'.trans (hB4.mono hB3'.size)
    have hx4 := (hx.later hB3).later hB4
    have hys := hy
    obtain ⟨ay, cy, rfl, _⟩ := hys
    go_wp2_with fail
    refine (same_any _ _ P P u4 hy hx4).mono ?_
    rintro e u5 ⟨rfl, hB5⟩
    rw [show decide (P = P) = true by simp]
    have hB5' := hB4'.trans (hB5.mono hB4'.size)
    have h15 := h1.later hB5'
    have hx5 := hx4.later hB5
    go_wp2_with fail
    refine (show_any _ l1 (by omega) (fun t ht => by have := f2 t ht; omega) u5 h15).mono ?_
    rintro e u6 ⟨rfl, hB6⟩
    have hB6' := hB5'.trans (hB6.mono hB5'.size)
    go_wp2_with fail
    refine (parse_any ⟨(show1 l1).toArray⟩ (by rw [size_tx]; omega) m u6 (hm.later hB6')).mono ?_
    rintro e u7 ⟨z, rfl, hz, hB7⟩
    rw [show (⟨(show1 l1).toArray⟩ : ByteArray).data.toList = show1 l1 from rfl] at hz
    have hB7' := hB6'.trans (hB7.mono hB6'.size)
    have h17 := h1.later hB7'
    have hx7 := (hx5.later hB6).later hB7
    have hzs := hz
    obtain ⟨az, cz, rfl, _⟩ := hzs
    go_wp2_with fail
    refine (same_any _ _ (parse (show1 l1)) l1 u7 hz h17).mono ?_
    rintro e u8 ⟨rfl, hB8⟩
    have hB8' := hB7'.trans (hB8.mono hB7'.size)
    have h18 := h1.later hB8'
    have hx8 := hx7.later hB8
    have hown : mayP l1 = false ∨ (mayP l1 = true ∧ decide (parse (show1 l1) = l1) = true) := by
      cases e : mayP l1
      · exact .inl rfl
      · exact .inr ⟨rfl, decide_eq_true (parse_show l1 e)⟩
    generalize decide (parse (show1 l1) = l1) = own at hown
    clear hx hx4 hx5 hx7 hy hz h15 h17
    go_wp2_with fail
    refine (may_any _ P (by omega) (fun t ht => by have := hP2 t ht; omega) m u8 (hm.later hB8') hx8).mono ?_
    rintro e u9 ⟨rfl, hB9⟩
    rw [HMAY.out]
    have hB9' := hB8'.trans (hB9.mono hB8'.size)
    have h19 := h18.later hB9
    go_wp2_with fail
    refine (may_any _ l1 (by omega) (fun t ht => by have := f2 t ht; omega) m u9 (hm.later hB9') h19).mono ?_
    rintro e u10 ⟨rfl, hB10⟩
    have hB10' := hB9'.trans (hB10.mono hB9'.size)
    rcases hown with h | ⟨h, rfl⟩
    · rw [h]
      clear h
      go_wp2
      go_ret
      exact ⟨rfl, hB10'⟩
    · rw [h]
      clear h
      go_wp2
      go_ret
      exact ⟨rfl, hB10'⟩
  · have q : decide ((300 : Int) < (a0.size : Int)) = true := decide_eq_true (by omega)
    go_wp2
    go_ret
    exact ⟨rfl, hB1⟩

/-! ### The row's step -/
theorem reads (os : Os) {H : Type} (enc : TypeId × Value → H) : (DataW.whole enc Tryd.prog ((Card.laidWorld os).forCall (fun _ _ => 0) ⟨#[], #[.string ByteArray.empty, .slice none 0 0], []⟩).memory Tryd.f3.params.toList Rows.pathBackSpec.vars false (#[.string ByteArray.empty, .slice none 0 0] : Array Value).toList 8).map (fun x => (x.1, x.2.1)) = some ([.lit (.string []), .nil], []) := by kernel_rfl
set_option maxRecDepth 100000 in
theorem lifted (os : Os) (started : os.Started) (H : Type) (enc : TypeId × Value → H) (F : Stop.Interp) :
    ReturnsInHanded {} Tryd.checked os 3 .any ((OpenSpec.ofChange Rows.pathBackSpec).preRow enc Tryd.prog Tryd.f3 Rows.pathBackRow.domain false Rows.pathBackRow.laid) (((OpenSpec.ofChange Rows.pathBackSpec).at F).post enc Tryd.prog Tryd.f3 false true false false) := by
  obtain ⟨⟨x1, x2, x3⟩, hx, hx1⟩ := Option.map_eq_some_iff.1 (reads os enc)
  simp only [Prod.mk.injEq] at hx1
  obtain ⟨rfl, rfl⟩ := hx1
  refine returnsInHanded_of_row (C := Tryd.checked) (s := OpenSpec.ofChange Rows.pathBackSpec) own started (by kernel_rfl) Tryd.func3
    (witness_row_at (enc := enc) (C := Tryd.checked) false (Card.laidWorld os) #[.string ByteArray.empty, .slice none 0 0] rfl (by kernel_rfl) (by kernel_rfl) (by kernel_rfl)
      (OpenSpec.preRow_of_cond 8 hx (by kernel_rfl) (fun k hk => by cases hk) (by kernel_rfl) (Card.laid_met os _))) ?_
  intro W base args ds gs before hval0 hW _ _ _ hL hsh _
  obtain ⟨m, hm⟩ := Card.maxLen_int hsh
  have hval : ∀ (j : Nat) t v, Tryd.f3.params[j]? = some t → args[j]? = some v → Value.okWide Tryd.prog W .any base t v := hval0
  have hW' := hW
  obtain ⟨p, q, hA0, hV, rfl, hfz, hnd⟩ := hW
  have hA : DataW.TrodAll enc Tryd.prog W 0 (fun _ => true) true Tryd.f3.params.toList args.toList ds p := hA0
  rw [Tryd.params3] at hA hval
  obtain ⟨v0, vs0, d0, ds0, p0, q0, hargs0, rfl, rfl, t0, r0⟩ := trodAll_cons hA
  obtain ⟨v1, vs1, d1, ds1, p1, q1, hargs1, rfl, rfl, t1, r1⟩ := trodAll_cons r0
  obtain ⟨rfl, rfl, rfl⟩ := trodAll_nil r1
  obtain rfl : args = #[v0, v1] := by cases args; simp_all
  obtain ⟨rfl, rfl⟩ := trodVars_none hV
  obtain ⟨a0, rfl, rfl, rfl, w0⟩ := open_string Tryd.underlying9 (hval 0 9 v0 rfl rfl) t0
  obtain ⟨a1, len1, cap1, rfl⟩ := okWide_slice Tryd.underlying22 (hval 1 22 v1 rfl rfl)
  have k1 := t1
  have lt1 : ∀ x ∈ p1, x.block < W.heap.size := by obtain ⟨m, hm⟩ := k1; exact DataW.trod_lt m _ _ _ hm
  obtain ⟨z1, w1⟩ := Path.open_texts t1
  clear hA0 hval0
  simp only [List.append_nil] at hW'
  refine (walk a0 (.slice a1 len1 cap1) z1 w0 m W hm w1).mono fun e W' ⟨he, bel⟩ => ?_
  subst he
  exact ⟨_, rfl, _, _, _, [], _, [], hW', trodAll_mk1 (shut_bool Tryd.underlying4 _), (trodAll_cons_mk (shut_string Tryd.underlying9 w0) (trodAll_cons_mk (Below.trod laidOut (by kernel_rfl) (of_decide_eq_true (by kernel_rfl)) k1 bel lt1) trodAll_mk0)), rfl, bel.frame _, fun h => by cases h⟩

theorem said : Rows.pathBackRow.holds Tryd.pinned (OpenSpec.ofChange Rows.pathBackSpec) :=
  OpenClaim.holds_of_cond 3 Tryd.f3 rfl rfl rfl rfl rfl rfl rfl ⟨rfl, rfl, rfl, rfl, rfl⟩ rfl rfl rfl rfl rfl (by kernel_rfl) Tryd.func3 (by kernel_rfl)
    (of_decide_eq_true (by kernel_rfl)) (by unfold Func.isWrapper; first | (rw [if_pos (by decide +kernel)]; kernel_rfl) | (rw [if_neg (by decide +kernel)]; exact ⟨rfl, rfl⟩))
    (fun os started H enc _ F => by rw [OpenClaim.pre_eq_preRow]; exact lifted os started H enc F)

/-- No parameter wants a stand-in; the program's own looks are off. -/
theorem plain (f : FuncId) (fn : Func) (hf : Tryd.pinned.checked.prog.funcNamed Rows.pathBackRow.func = some f) (hfn : Tryd.pinned.checked.prog.funcs[f]? = some fn) :
    false = Tryd.pinned.checked.prog.looks [] ∧ ∀ (j : Nat) t, fn.params[j]? = some t → Tryd.pinned.checked.prog.wantsStandIn t = false := by
  obtain rfl : f = 3 := Option.some.inj ((show Tryd.prog.funcNamed Rows.pathBackRow.func = some 3 by kernel_rfl).symm.trans hf) |>.symm
  obtain rfl : fn = Tryd.f3 := (Option.some.inj (Tryd.func3.symm.trans hfn)).symm
  refine ⟨by kernel_rfl, fun j t ht => ?_⟩
  rw [Tryd.params3] at ht
  obtain rfl | rfl : t = 9 ∨ t = 22 := by simpa using Array.mem_of_getElem? ht
  · exact (show Tryd.prog.wantsStandIn 9 = false by kernel_rfl)
  · exact (show Tryd.prog.wantsStandIn 22 = false by kernel_rfl)

/-- The statement: the card. -/
theorem proved : Rows.PathBackCardSaid :=
  Claim7.holds_tied_plain_at .later [] _ _ _ _ said (fun _ h => by cases h) (by kernel_rfl) (fun _ h => by cases h) pathBack_row_tie rfl ⟨rfl, rfl⟩ (by kernel_rfl) rfl plain (by kernel_rfl)
#print axioms proved
end Go.Proofs.YtbofkmaajhfkeaaDoor.pathBack
