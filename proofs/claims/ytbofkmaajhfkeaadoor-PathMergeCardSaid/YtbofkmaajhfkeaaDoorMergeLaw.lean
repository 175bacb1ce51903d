/-
  PathMerge of layer 8 returns true for every input and leaves its arguments as they were: beside a path that is a directory a path stands behind all of it; one that goes up as often as there are segments is at the top; beside an empty one a path is itself. Conditions: the two tables of unicode/utf8 lie as their texts lay them (listed by the card), internal/bytealg.MaxLen holds any int.
-/
import Derived.Test.YtbofkmaajhfkeaaDoorCards
import Derived.Test.YtbofkmaajhfkeaaDoorTie
import Derived.WalkKit
import Derived.ProofKit
import Derived.OpenShut
import Derived.ShutString
import Derived.ChangeOld
import Derived.Below
import Derived.Test.YtbofkmaajhfkeaaDoorPaOpen
namespace Go.Proofs.YtbofkmaajhfkeaaDoor.pathMerge
open Go.ChangeShapes Go.WideShapes Go.ChangeAt Go.RowKit
open Go.ChangeMaps (open_string shut_string)
open Go.Shelf
open Go.Proofs.YtbofkmaajhfkeaaDoor.Path
set_option linter.unusedSimpArgs false
set_option linter.unusedVariables false

theorem own : ownKnob Tryd.prog.godebug = none := by kernel_rfl
theorem laidOut : laidOutB Tryd.prog = true := by kernel_rfl

theorem ups_next (U : ByteArray) (k : Nat) (h : U.data.toList = ups k) : (U ++ ⟨#[46, 46, 47]⟩ : ByteArray).data.toList = ups (k + 1) := by
  rw [text_append, h]
  rfl
theorem out_of (l0 : List T) (v0 : Value) (a1 : ByteArray) (m : Int) (w : World) (hm : MaxAt m w) (h0 : Strs w v0 l0)
    (hw : fewB l0 = false ∨ (fewB l0 = true ∧ 300 < a1.size) ∨ (fewB l0 = true ∧ a1.size ≤ 300 ∧ mayP l0 = false)) :
    Calls Tryd.prog 5 #[v0, .string a1] w fun e w' => e = .returned (.bool true) ∧ Below w.heap.size w w' := by
  have h0' := h0
  obtain ⟨ax, cx, rfl, _⟩ := h0'
  have HW := Lib.hid hw
  clear hw
  go_enter Tryd.func5, Tryd.ntmps5
  go_wp2_with fail
  refine (awake_at hm).mono ?_
  rintro e u1 ⟨rfl, hB1⟩
  go_wp2_with fail
  refine (few_any _ l0 u1 (h0.later hB1)).mono ?_
  rintro e u1' ⟨rfl, rfl⟩
  rcases HW.out with h | ⟨h, h2⟩ | ⟨h, h2, h3⟩
  · rw [h]
    clear h HW
    go_wp2
    go_ret
    exact ⟨rfl, hB1⟩
  · rw [h]
    have q : decide ((300 : Int) < (a1.size : Int)) = true := decide_eq_true (by omega)
    clear h HW h2
    go_wp2
    go_ret
    exact ⟨rfl, hB1⟩
  · obtain ⟨f1, f2⟩ := (few_iff l0).1 h
    rw [h]
    have q : decide ((300 : Int) < (a1.size : Int)) = false := decide_eq_false (by omega)
    have H3 := Lib.hid h3
    clear h HW h3
    go_wp2_with fail
    refine (may_any _ l0 (by omega) (fun t ht => by have := f2 t ht; omega) m u1 (hm.later hB1) (h0.later hB1)).mono ?_
    rintro e u2 ⟨rfl, hB2⟩
    have hB2' := hB1.trans (hB2.mono hB1.size)
    rw [H3.out]
    go_wp2
    go_ret
    exact ⟨rfl, hB2'⟩
set_option maxRecDepth 100000 in
set_option maxHeartbeats 4000000 in
theorem walk (v0 : Value) (l0 : List T) (a1 : ByteArray) (w1 : a1.size ≤ maxLen) (m : Int) (w : World) (hm : MaxAt m w) (h0 : Strs w v0 l0) :
    Calls Tryd.prog 5 #[v0, .string a1] w fun e w' => e = .returned (.bool true) ∧ Below w.heap.size w w' := by
  unfold maxLen at w1
  cases hf : fewB l0
  · exact out_of l0 v0 a1 m w hm h0 (.inl hf)
  by_cases h300 : a1.size ≤ 300
  case neg => exact out_of l0 v0 a1 m w hm h0 (.inr (.inl ⟨hf, by omega⟩))
  cases hy : mayP l0
  · exact out_of l0 v0 a1 m w hm h0 (.inr (.inr ⟨hf, h300, hy⟩))
  obtain ⟨f1, f2⟩ := (few_iff l0).1 hf
  have q : decide ((300 : Int) < (a1.size : Int)) = false := decide_eq_false (by omega)
  have h0' := h0
  obtain ⟨ax, cx, rfl, g1, g2, _⟩ := h0'
  unfold maxLen at g2
  have HF := Lib.hid hf
  have HY := Lib.hid hy
  have FF := Lib.hid (show ∀ t ∈ l0, t.length ≤ 1000000 from fun t ht => by have := f2 t ht; omega)
  clear hf hy f2
  go_enter Tryd.func5, Tryd.ntmps5
  go_wp2_with fail
  refine (awake_at hm).mono ?_
  rintro e u1 ⟨rfl, hB1⟩
  go_wp2_with fail
  refine (few_any _ l0 u1 (h0.later hB1)).mono ?_
  rintro e u1' ⟨rfl, rfl⟩
  rw [HF.out]
  go_wp2_with fail
  refine (may_any _ l0 (by omega) FF.out m u1 (hm.later hB1) (h0.later hB1)).mono ?_
  rintro e u2 ⟨rfl, hB2⟩
  have hB2' := hB1.trans (hB2.mono hB1.size)
  rw [HY.out]
  go_wp2_with fail
  refine (merge_any _ l0 (by omega) FF.out a1 (by omega) m u2 (hm.later hB2') (h0.later hB2')).mono ?_
  rintro e u3 ⟨x, rfl, hx, hB3⟩
  have hB3' := hB2'.trans (hB3.mono hB2'.size)
  have hmx := merge_may l0 a1.data.toList HY.out
  have hmb : (merge l0 a1.data.toList).length ≤ 100000 ∧ ∀ t ∈ merge l0 a1.data.toList, t.length ≤ 1000000 := by
    have k1 : (show1 (merge l0 a1.data.toList)).length ≤ (show1 (l0.dropLast ++ segs a1.data.toList)).length := by
      have h1 := norm_show [] (l0.dropLast ++ segs a1.data.toList)
      have h2 : (show1 ([] : List T)).length = 0 := rfl
      show (show1 (norm [] (l0.dropLast ++ segs a1.data.toList))).length ≤ _
      omega
    have k2 : (show1 (l0.dropLast ++ segs a1.data.toList)).length ≤ 20000 := by
      rw [show_append, List.length_append]
      have k3 := show_drop l0
      have k4 := few_show l0 HF.out
      have k5 : (show1 (segs a1.data.toList)).length ≤ 901 := by
        have h2 := split_show_len (enc (strip a1.data.toList))
        have h3 : (enc (strip a1.data.toList)).length ≤ 3 * (strip a1.data.toList).length := Pct.encode_len 3 _
        have h4 := strip_len a1.data.toList
        have h5 : a1.data.toList.length = a1.size := rfl
        unfold segs
        omega
      omega
    have k6 := show_count (merge l0 a1.data.toList)
    exact ⟨by omega, fun t ht => by have := show_each _ t ht; omega⟩
  generalize merge l0 a1.data.toList = M at hx hmx hmb
  obtain ⟨hm1, hm2⟩ := hmb
  have HMX := Lib.hid hmx
  have HM2 := Lib.hid hm2
  have hM0 : decide (0 < M.length) = true := decide_eq_true (List.length_pos_iff.2 ((mayP_iff M).1 hmx).2)
  have hM0i : decide ((0 : Int) < (M.length : Int)) = true := decide_eq_true (by have := of_decide_eq_true hM0; omega)
  have hxs := hx
  obtain ⟨ay, cy, rfl, _⟩ := hxs
  clear hmx hm2
  go_wp2
  go_loop [8, 9] (fun u i => ∃ (k : Nat) (U : ByteArray), k ≤ l0.length ∧ i = .int .i64 k ∧ u = .string U ∧ U.data.toList = ups k) (fun _ i => l0.length - (intOf i).toNat)
  case atStart => exact ⟨0, ⟨#[]⟩, Nat.zero_le _, rfl, rfl, rfl⟩
  case round =>
    obtain ⟨k, U, hk, rfl, rfl, hUl⟩ := hrel
    have hsz : U.size ≤ 200 := by
      have h1 := ups_len k
      have h2 : U.data.toList.length = U.size := rfl
      rw [hUl] at h2
      omega
    have HU := Lib.hid (ups_next U k hUl)
    have HUL := Lib.hid hUl
    clear hUl
    by_cases hlt : k < l0.length
    · go_wp2
      go_round
      case rel => exact ⟨k + 1, _, by omega, by go_num, rfl, HU.out⟩
      case measure => simp [intOf]; omega
    · obtain rfl : k = l0.length := by omega
      have htop := merge_top l0 a1.data.toList HY.out
      rw [← HUL.out] at htop
      have HTOP := Lib.hid htop
      clear htop HU
      go_wp2_with fail
      refine (merge_any _ l0 (by omega) FF.out (U ++ a1) (by rw [ByteArray.size_append]; omega) m u3 (hm.later hB3') (h0.later hB3')).mono ?_
      rintro e u4 ⟨y, rfl, hy, hB4⟩
      rw [text_append, HTOP.out] at hy
      have hB4' := hB3'.trans (hB4.mono hB3'.size)
      have hx4 := hx.later hB4
      have hys := hy
      obtain ⟨ay', cy', rfl, _⟩ := hys
      go_wp2_with fail
      refine (parse_any (U ++ a1) (by rw [ByteArray.size_append]; omega) m u4 (hm.later hB4')).mono ?_
      rintro e u5 ⟨z, rfl, hz, hB5⟩
      rw [text_append] at hz
      have hB5' := hB4'.trans (hB5.mono hB4'.size)
      have hx5 := hx4.later hB5
      have hy5 := hy.later hB5
      have hzs := hz
      obtain ⟨az, cz, rfl, _⟩ := hzs
      go_wp2_with fail
      refine (same_any _ _ _ _ u5 hy5 hz).mono ?_
      rintro e u6 ⟨rfl, hB6⟩
      rw [show decide (parse (U.data.toList ++ a1.data.toList) = parse (U.data.toList ++ a1.data.toList)) = true by simp]
      have hB6' := hB5'.trans (hB6.mono hB5'.size)
      have hx6 := hx5.later hB6
      clear hx hx4 hx5 hy hy5 hz
      go_wp2_with fail
      refine (merge_any (.slice none 0 0) [] (by simp) (by simp) a1 (by omega) m u6 (hm.later hB6') (Strs.nil _)).mono ?_
      rintro e u7 ⟨y, rfl, hy, hB7⟩
      rw [merge_nil] at hy
      have hB7' := hB6'.trans (hB7.mono hB6'.size)
      have hx7 := hx6.later hB7
      have hys := hy
      obtain ⟨ay'', cy'', rfl, _⟩ := hys
      go_wp2_with fail
      refine (parse_any a1 (by omega) m u7 (hm.later hB7')).mono ?_
      rintro e u8 ⟨z, rfl, hz, hB8⟩
      have hB8' := hB7'.trans (hB8.mono hB7'.size)
      have hx8 := hx7.later hB8
      have hy8 := hy.later hB8
      have hzs := hz
      obtain ⟨az', cz', rfl, _⟩ := hzs
      go_wp2_with fail
      refine (same_any _ _ _ _ u8 hy8 hz).mono ?_
      rintro e u9 ⟨rfl, hB9⟩
      rw [show decide (parse a1.data.toList = parse a1.data.toList) = true by simp]
      have hB9' := hB8'.trans (hB9.mono hB8'.size)
      have hx9 := hx8.later hB9
      clear hx6 hx7 hx8 hy hy8 hz
      go_wp2_with fail
      refine (may_any _ M hm1 HM2.out m u9 (hm.later hB9') hx9).mono ?_
      rintro e u10 ⟨rfl, hB10⟩
      rw [HMX.out]
      have hB10' := hB9'.trans (hB10.mono hB9'.size)
      go_wp2
      go_ret
      exact ⟨rfl, hB10'⟩

/-! ### The row's step -/
theorem reads (os : Os) {H : Type} (enc : TypeId × Value → H) : (DataW.whole enc Tryd.prog ((Card.laidWorld os).forCall (fun _ _ => 0) ⟨#[], #[.slice none 0 0, .string ByteArray.empty], []⟩).memory Tryd.f5.params.toList Rows.pathMergeSpec.vars false (#[.slice none 0 0, .string ByteArray.empty] : Array Value).toList 8).map (fun x => (x.1, x.2.1)) = some ([.nil, .lit (.string [])], []) := by kernel_rfl
set_option maxRecDepth 100000 in
theorem lifted (os : Os) (started : os.Started) (H : Type) (enc : TypeId × Value → H) (F : Stop.Interp) :
    ReturnsInHanded {} Tryd.checked os 5 .any ((OpenSpec.ofChange Rows.pathMergeSpec).preRow enc Tryd.prog Tryd.f5 Rows.pathMergeRow.domain false Rows.pathMergeRow.laid) (((OpenSpec.ofChange Rows.pathMergeSpec).at F).post enc Tryd.prog Tryd.f5 false true false false) := by
  obtain ⟨⟨x1, x2, x3⟩, hx, hx1⟩ := Option.map_eq_some_iff.1 (reads os enc)
  simp only [Prod.mk.injEq] at hx1
  obtain ⟨rfl, rfl⟩ := hx1
  refine returnsInHanded_of_row (C := Tryd.checked) (s := OpenSpec.ofChange Rows.pathMergeSpec) own started (by kernel_rfl) Tryd.func5
    (witness_row_at (enc := enc) (C := Tryd.checked) false (Card.laidWorld os) #[.slice none 0 0, .string ByteArray.empty] rfl (by kernel_rfl) (by kernel_rfl) (by kernel_rfl)
      (OpenSpec.preRow_of_cond 8 hx (by kernel_rfl) (fun k hk => by cases hk) (by kernel_rfl) (Card.laid_met os _))) ?_
  intro W base args ds gs before hval0 hW _ _ _ hL hsh _
  obtain ⟨m, hm⟩ := Card.maxLen_int hsh
  have hval : ∀ (j : Nat) t v, Tryd.f5.params[j]? = some t → args[j]? = some v → Value.okWide Tryd.prog W .any base t v := hval0
  have hW' := hW
  obtain ⟨p, q, hA0, hV, rfl, hfz, hnd⟩ := hW
  have hA : DataW.TrodAll enc Tryd.prog W 0 (fun _ => true) true Tryd.f5.params.toList args.toList ds p := hA0
  rw [Tryd.params5] at hA hval
  obtain ⟨v0, vs0, d0, ds0, p0, q0, hargs0, rfl, rfl, t0, r0⟩ := trodAll_cons hA
  obtain ⟨v1, vs1, d1, ds1, p1, q1, hargs1, rfl, rfl, t1, r1⟩ := trodAll_cons r0
  obtain ⟨rfl, rfl, rfl⟩ := trodAll_nil r1
  obtain rfl : args = #[v0, v1] := by cases args; simp_all
  obtain ⟨rfl, rfl⟩ := trodVars_none hV
  obtain ⟨a0, len0, cap0, rfl⟩ := okWide_slice Tryd.underlying22 (hval 0 22 v0 rfl rfl)
  have k0 := t0
  have lt0 : ∀ x ∈ p0, x.block < W.heap.size := by obtain ⟨m, hm⟩ := k0; exact DataW.trod_lt m _ _ _ hm
  obtain ⟨z0, w0⟩ := Path.open_texts t0
  obtain ⟨a1, rfl, rfl, rfl, w1⟩ := open_string Tryd.underlying9 (hval 1 9 v1 rfl rfl) t1
  clear hA0 hval0
  simp only [List.append_nil] at hW'
  refine (walk (.slice a0 len0 cap0) z0 a1 w1 m W hm w0).mono fun e W' ⟨he, bel⟩ => ?_
  subst he
  exact ⟨_, rfl, _, _, _, [], _, [], hW', trodAll_mk1 (shut_bool Tryd.underlying4 _), (trodAll_cons_mk (Below.trod laidOut (by kernel_rfl) (of_decide_eq_true (by kernel_rfl)) k0 bel lt0) (trodAll_cons_mk (shut_string Tryd.underlying9 w1) trodAll_mk0)), rfl, bel.frame _, fun h => by cases h⟩

theorem said : Rows.pathMergeRow.holds Tryd.pinned (OpenSpec.ofChange Rows.pathMergeSpec) :=
  OpenClaim.holds_of_cond 5 Tryd.f5 rfl rfl rfl rfl rfl rfl rfl ⟨rfl, rfl, rfl, rfl, rfl⟩ rfl rfl rfl rfl rfl (by kernel_rfl) Tryd.func5 (by kernel_rfl)
    (of_decide_eq_true (by kernel_rfl)) (by unfold Func.isWrapper; first | (rw [if_pos (by decide +kernel)]; kernel_rfl) | (rw [if_neg (by decide +kernel)]; exact ⟨rfl, rfl⟩))
    (fun os started H enc _ F => by rw [OpenClaim.pre_eq_preRow]; exact lifted os started H enc F)

/-- No parameter wants a stand-in; the program's own looks are off. -/
theorem plain (f : FuncId) (fn : Func) (hf : Tryd.pinned.checked.prog.funcNamed Rows.pathMergeRow.func = some f) (hfn : Tryd.pinned.checked.prog.funcs[f]? = some fn) :
    false = Tryd.pinned.checked.prog.looks [] ∧ ∀ (j : Nat) t, fn.params[j]? = some t → Tryd.pinned.checked.prog.wantsStandIn t = false := by
  obtain rfl : f = 5 := Option.some.inj ((show Tryd.prog.funcNamed Rows.pathMergeRow.func = some 5 by kernel_rfl).symm.trans hf) |>.symm
  obtain rfl : fn = Tryd.f5 := (Option.some.inj (Tryd.func5.symm.trans hfn)).symm
  refine ⟨by kernel_rfl, fun j t ht => ?_⟩
  rw [Tryd.params5] at ht
  obtain rfl | rfl : t = 22 ∨ t = 9 := by simpa using Array.mem_of_getElem? ht
  · exact (show Tryd.prog.wantsStandIn 22 = false by kernel_rfl)
  · exact (show Tryd.prog.wantsStandIn 9 = false by kernel_rfl)

/-- The statement: the card. -/
theorem proved : Rows.PathMergeCardSaid :=
  Claim7.holds_tied_plain_at .later [] _ _ _ _ said (fun _ h => by cases h) (by kernel_rfl) (fun _ h => by cases h) pathMerge_row_tie rfl ⟨rfl, rfl⟩ (by kernel_rfl) rfl plain (by kernel_rfl)
#print axioms proved
end Go.Proofs.YtbofkmaajhfkeaaDoor.pathMerge
