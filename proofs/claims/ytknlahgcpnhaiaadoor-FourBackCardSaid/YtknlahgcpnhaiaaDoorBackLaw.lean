/-
  The law FourBack holds for every input: for every text and every two numbers the call returns true and leaves what was there as it was. No condition of its own; the card: the two listed tables of unicode/utf8 lie as their texts lay them (tied).
-/
import Derived.Test.YtknlahgcpnhaiaaDoorCards
import Derived.Test.YtknlahgcpnhaiaaDoorTie
import Derived.WalkKit
import Derived.ProofKit
import Derived.OpenShut
import Derived.ShutString
import Derived.Test.YtknlahgcpnhaiaaDoorLaid
import Derived.Test.YtknlahgcpnhaiaaDoorFAwake
namespace Go.Proofs.YtknlahgcpnhaiaaDoor.fourBack
open Go.ChangeShapes Go.WideShapes Go.ChangeAt Go.RowKit
open Go.ChangeMaps (open_string shut_string)
open Go.Shelf
open Go.Proofs.YtknlahgcpnhaiaaDoor.Four
set_option linter.unusedSimpArgs false
set_option linter.unusedVariables false      -- a walk need not use every 'w<i>' (that an integer argument fits its kind)

theorem own : ownKnob Tryd.prog.godebug = none := by kernel_rfl

theorem empty_of (l : List UInt8) (x : ByteArray) (hx : (⟨l.toArray⟩ : ByteArray) = x) : x.toList.isEmpty = l.isEmpty := by
  subst hx
  rw [ByteArray.toList_eq]
theorem showF_own (n : Int) (h : fitsB n = true) : showF n = show4 n.toNat := by unfold showF; rw [if_pos h]
theorem showF_not (n : Int) (h : fitsB n = false) : showF n = [] := by unfold showF; rw [h]; rfl
theorem own_of (n : Int) (b0 : decide (0 ≤ n) = true) (b1 : decide (n ≤ 4294967295) = true) : fitsB n = true := by unfold fitsB; rw [b0, b1]; rfl
theorem showF_some (l : List UInt8) (h : parB l = true) : showF (parI l) = l ∧ 0 ≤ parI l ∧ parI l ≤ 4294967295 := by
  obtain ⟨k, hk, e, e2⟩ := parB_some l h
  have hf : fitsB (k : Int) = true := by unfold fitsB; simp; omega
  rw [e2, showF_own _ hf]
  refine ⟨?_, by omega, by omega⟩
  rw [e]
  congr 1
theorem same_of (n k : Int) (h : fitsB n = true) : (showF k = showF n) ↔ k = n := by
  constructor
  · intro e
    obtain ⟨h0, h1⟩ := fitsB_true h
    cases hk : fitsB k
    · rw [showF_not k hk, showF_own n h] at e
      have := (show4_len n.toNat (by omega)).1
      rw [← e] at this
      simp at this
    · obtain ⟨k0, k1⟩ := fitsB_true hk
      rw [showF_own k hk, showF_own n h] at e
      have := show4_inj (by omega) (by omega) e
      omega
  · rintro rfl; rfl

set_option maxRecDepth 100000 in
set_option maxHeartbeats 4000000 in
theorem walkOut (s : ByteArray) (n k : Int) (h : decide ((300 : Int) < s.size) = true) (m : Int) (w : World) (hm : Hid (MaxAt m w)) :
    Calls Tryd.prog 4 #[.string s, .int .i64 n, .int .i64 k] w fun e w' => e = .returned (.bool true) ∧ Below w.heap.size w w' := by
  go_enter Tryd.func4, Tryd.ntmps4
  go_wp2_with fail
  refine (awake_calls m _ hm.out).mono ?_
  rintro e u1 ⟨rfl, hB1⟩
  go_wp2_with fail
  go_ret
  exact ⟨rfl, hB1⟩

set_option maxRecDepth 100000 in
set_option maxHeartbeats 4000000 in
theorem walkOwn (s : ByteArray) (n k : Int) (h : decide ((300 : Int) < s.size) = false) (b0 : decide (0 ≤ n) = true) (b1 : decide (n ≤ 4294967295) = true) (hs : Hid (s.size ≤ 1000000))
    (tx : ByteArray) (ht : Hid ((⟨(showF n).toArray⟩ : ByteArray) = tx)) (htl : Hid (tx.size ≤ 1000000)) (e0 : tx.toList.isEmpty = false) (hp : Hid (parI tx.data.toList = n ∧ parB tx.data.toList = true)) (hk : Hid (lookB tx.data.toList = true))
    (x : Int) (c : Bool) (hx : Hid (parI s.data.toList = x)) (hc : Hid (parB s.data.toList = c)) (hcan : Hid (c = true → (⟨(showF x).toArray⟩ : ByteArray) = s)) (x0 : c = true → decide (0 ≤ x) = true ∧ decide (x ≤ 4294967295) = true)
    (ty : ByteArray) (hy : Hid ((⟨(showF k).toArray⟩ : ByteArray) = ty)) (q : Bool) (q0 : (ty.toList == tx.toList) = q) (q1 : (k == n) = q) (m : Int) (w : World) (hm : Hid (MaxAt m w)) :
    Calls Tryd.prog 4 #[.string s, .int .i64 n, .int .i64 k] w fun e w' => e = .returned (.bool true) ∧ Below w.heap.size w w' := by
  go_enter Tryd.func4, Tryd.ntmps4
  go_wp2_with fail
  refine (awake_calls m _ hm.out).mono ?_
  rintro e u1 ⟨rfl, hB1⟩
  go_wp2_with fail
  refine (showF_at n tx ht.out _).mono ?_
  rintro e u2 ⟨rfl, hB2⟩
  go_wp2_with fail
  refine (parse_at tx htl.out n true hp.out.1 hp.out.2 m _ ((hm.out.later hB1).later hB2)).mono ?_
  rintro e u3 ⟨rfl, hB3⟩
  have hB := Lib.hid (Deci.below3 hB1 hB2 hB3)
  clear hB1 hB2 hB3
  go_wp2_with fail
  refine (parse_at s hs.out x c hx.out hc.out m _ (hm.out.later hB.out)).mono ?_
  rintro e u4 ⟨rfl, hB4⟩
  have hB' := Lib.hid (Deci.below2 hB.out hB4)
  clear hB4 hB
  go_wp2_with fail
  refine (looks_at tx htl.out true hk.out _).mono ?_
  rintro e u ⟨rfl, rfl⟩
  cases c
  · clear x0
    go_wp2_with fail
    refine (showF_at k ty hy.out _).mono ?_
    rintro e u5 ⟨rfl, hB5⟩
    go_wp2
    go_ret
    exact ⟨rfl, Deci.below2 hB'.out hB5⟩
  · obtain ⟨x0, x1⟩ := x0 rfl
    have hcn := Lib.hid (hcan.out rfl)
    clear hcan
    go_wp2_with fail
    refine (showF_at x s hcn.out _).mono ?_
    rintro e u5 ⟨rfl, hB5⟩
    go_wp2_with fail
    refine (showF_at k ty hy.out _).mono ?_
    rintro e u6 ⟨rfl, hB6⟩
    go_wp2
    go_ret
    exact ⟨rfl, Deci.below3 hB'.out hB5 hB6⟩

set_option maxRecDepth 100000 in
set_option maxHeartbeats 4000000 in
theorem walkNot (s : ByteArray) (n k : Int) (h : decide ((300 : Int) < s.size) = false) (b : decide (0 ≤ n) = false ∨ (decide (0 ≤ n) = true ∧ decide (n ≤ 4294967295) = false)) (hs : Hid (s.size ≤ 1000000))
    (ht : Hid ((⟨(showF n).toArray⟩ : ByteArray) = ⟨#[]⟩))
    (x : Int) (c : Bool) (hx : Hid (parI s.data.toList = x)) (hc : Hid (parB s.data.toList = c)) (hcan : Hid (c = true → (⟨(showF x).toArray⟩ : ByteArray) = s)) (x0 : c = true → decide (0 ≤ x) = true ∧ decide (x ≤ 4294967295) = true)
    (m : Int) (w : World) (hm : Hid (MaxAt m w)) :
    Calls Tryd.prog 4 #[.string s, .int .i64 n, .int .i64 k] w fun e w' => e = .returned (.bool true) ∧ Below w.heap.size w w' := by
  rcases b with b0 | ⟨b0, b1⟩
  all_goals
    go_enter Tryd.func4, Tryd.ntmps4
    go_wp2_with fail
    refine (awake_calls m _ hm.out).mono ?_
    rintro e u1 ⟨rfl, hB1⟩
    go_wp2_with fail
    refine (showF_at n ⟨#[]⟩ ht.out _).mono ?_
    rintro e u2 ⟨rfl, hB2⟩
    go_wp2_with fail
    refine (parse_at ⟨#[]⟩ (by decide) 0 false (parI_none _ par_nil) par_nil m _ ((hm.out.later hB1).later hB2)).mono ?_
    rintro e u3 ⟨rfl, hB3⟩
    have hB := Lib.hid (Deci.below3 hB1 hB2 hB3)
    clear hB1 hB2 hB3
    go_wp2_with fail
    refine (parse_at s hs.out x c hx.out hc.out m _ (hm.out.later hB.out)).mono ?_
    rintro e u4 ⟨rfl, hB4⟩
    have hB' := Lib.hid (Deci.below2 hB.out hB4)
    clear hB4 hB
    cases c
    · clear x0
      go_wp2
      go_ret
      exact ⟨rfl, hB'.out⟩
    · obtain ⟨x0, x1⟩ := x0 rfl
      have hcn := Lib.hid (hcan.out rfl)
      clear hcan
      go_wp2_with fail
      refine (showF_at x s hcn.out _).mono ?_
      rintro e u5 ⟨rfl, hB5⟩
      go_wp2
      go_ret
      exact ⟨rfl, Deci.below2 hB'.out hB5⟩

theorem walk (a0 : ByteArray) (a1 a2 : Int) (w0 : a0.size ≤ maxLen) (w1 : (Lit.int .i64 a1).wf = true) (w2 : (Lit.int .i64 a2).wf = true) (m : Int) (w : World) (hm : w.cell? ⟨0, 0, none⟩ = some (.int .i64 m)) :
    Calls Tryd.prog 4 #[.string a0, .int .i64 a1, .int .i64 a2] w fun e w' => e = .returned (.bool true) ∧ Below w.heap.size w w' := by
  cases h : decide ((300 : Int) < a0.size)
  · have hs : a0.size ≤ 1000000 := by simp at h; omega
    have hcan : parB a0.data.toList = true → (⟨(showF (parI a0.data.toList)).toArray⟩ : ByteArray) = a0 := fun e => by rw [(showF_some _ e).1]
    have hx : parB a0.data.toList = true → decide (0 ≤ parI a0.data.toList) = true ∧ decide (parI a0.data.toList ≤ 4294967295) = true := fun e => ⟨decide_eq_true (showF_some _ e).2.1, decide_eq_true (showF_some _ e).2.2⟩
    cases ho : fitsB a1
    · exact walkNot a0 a1 a2 h (by have := fitsB_false ho; simp; omega) (Lib.hid hs) (Lib.hid (by rw [showF_not _ ho])) _ _ (Lib.hid rfl) (Lib.hid rfl) (Lib.hid hcan) hx m w (Lib.hid hm)
    · obtain ⟨h0, h1⟩ := fitsB_true ho
      have he := showF_own a1 ho
      have hl := show4_len a1.toNat (by omega)
      refine walkOwn a0 a1 a2 h (decide_eq_true h0) (decide_eq_true h1) (Lib.hid hs) ⟨(showF a1).toArray⟩ (Lib.hid rfl) (Lib.hid ?_) ?_ (Lib.hid ⟨?_, ?_⟩) (Lib.hid ?_) _ _ (Lib.hid rfl) (Lib.hid rfl) (Lib.hid hcan) hx ⟨(showF a2).toArray⟩ (Lib.hid rfl) (a2 == a1) ?_ rfl m w (Lib.hid hm)
      · show (showF a1).length ≤ 1000000
        rw [he]; omega
      · rw [empty_of _ _ rfl, he]
        cases hc : show4 a1.toNat
        · rw [hc] at hl; simp at hl
        · rfl
      · show parI (showF a1) = a1
        rw [he, parI_show _ (by omega)]; omega
      · show parB (showF a1) = true
        rw [he]; exact parB_show _ (by omega)
      · show lookB (showF a1) = true
        rw [he]; exact look_show _
      · rw [ByteArray.toList_eq, ByteArray.toList_eq, Bool.eq_iff_iff, beq_iff_eq, beq_iff_eq]
        exact same_of a1 a2 ho
  · exact walkOut a0 a1 a2 h m w (Lib.hid hm)

/-! ### The row's step -/
theorem reads (os : Os) {H : Type} (enc : TypeId × Value → H) : (DataW.whole enc Tryd.prog ((Card.laidWorld os).forCall (fun _ _ => 0) ⟨#[], #[.string ByteArray.empty, .int .i64 0, .int .i64 0], []⟩).memory Tryd.f4.params.toList Rows.fourBackSpec.vars false (#[.string ByteArray.empty, .int .i64 0, .int .i64 0] : Array Value).toList 8).map (fun x => (x.1, x.2.1)) = some ([.lit (.string []), .lit (.int .i64 0), .lit (.int .i64 0)], []) := by kernel_rfl
set_option maxRecDepth 100000 in
theorem lifted (os : Os) (started : os.Started) (H : Type) (enc : TypeId × Value → H) (F : Stop.Interp) :
    ReturnsInHanded {} Tryd.checked os 4 .any ((OpenSpec.ofChange Rows.fourBackSpec).preRow enc Tryd.prog Tryd.f4 Rows.fourBackRow.domain false Rows.fourBackRow.laid) (((OpenSpec.ofChange Rows.fourBackSpec).at F).post enc Tryd.prog Tryd.f4 false true false false) := by
  obtain ⟨⟨x1, x2, x3⟩, hx, hx1⟩ := Option.map_eq_some_iff.1 (reads os enc)
  simp only [Prod.mk.injEq] at hx1
  obtain ⟨rfl, rfl⟩ := hx1
  refine returnsInHanded_of_row (C := Tryd.checked) (s := OpenSpec.ofChange Rows.fourBackSpec) own started (by kernel_rfl) Tryd.func4
    (witness_row_at (enc := enc) (C := Tryd.checked) false (Card.laidWorld os) #[.string ByteArray.empty, .int .i64 0, .int .i64 0] rfl (by kernel_rfl) (by kernel_rfl) (by kernel_rfl)
      (OpenSpec.preRow_of_cond 8 hx (by kernel_rfl) (fun k hk => by cases hk) (by kernel_rfl) (Card.laid_met os _))) ?_
  intro W base args ds gs before hval0 hW _ _ _ hL hsh _
  obtain ⟨m, hm⟩ := Card.maxLen_int hsh
  have hval : ∀ (j : Nat) t v, Tryd.f4.params[j]? = some t → args[j]? = some v → Value.okWide Tryd.prog W .any base t v := hval0
  have hW' := hW
  obtain ⟨p, q, hA0, hV, rfl, hfz, hnd⟩ := hW
  have hA : DataW.TrodAll enc Tryd.prog W 0 (fun _ => true) true Tryd.f4.params.toList args.toList ds p := hA0
  rw [Tryd.params4] at hA hval
  obtain ⟨v0, vs0, d0, ds0, p0, q0, hargs, rfl, rfl, h0, r0⟩ := trodAll_cons hA
  obtain ⟨v1, vs1, d1, ds1, p1, q1, rfl, rfl, rfl, h1, r1⟩ := trodAll_cons r0
  obtain ⟨v2, vs2, d2, ds2, p2, q2, rfl, rfl, rfl, h2, r2⟩ := trodAll_cons r1
  obtain ⟨rfl, rfl, rfl⟩ := trodAll_nil r2
  obtain rfl : args = #[v0, v1, v2] := by cases args; simp_all
  obtain ⟨rfl, rfl⟩ := trodVars_none hV
  obtain ⟨a0, rfl, rfl, rfl, w0⟩ := open_string Tryd.underlying9 (hval 0 9 v0 rfl rfl) h0
  obtain ⟨a1, rfl, rfl, rfl, w1⟩ := open_int Tryd.underlying3 (hval 1 3 v1 rfl rfl) h1
  obtain ⟨a2, rfl, rfl, rfl, w2⟩ := open_int Tryd.underlying3 (hval 2 3 v2 rfl rfl) h2
  clear hA0 hval0
  simp only [List.append_nil] at hW'
  refine (walk a0 a1 a2 w0 w1 w2 m W hm).mono fun e W' ⟨he, hg⟩ => ?_
  subst he
  exact ⟨_, rfl, _, _, _, [], _, [], hW', trodAll_mk1 (shut_bool Tryd.underlying4 _), (trodAll_cons_mk (shut_string Tryd.underlying9 w0) (trodAll_cons_mk (shut_int Tryd.underlying3 w1) (trodAll_cons_mk (shut_int Tryd.underlying3 w2) trodAll_mk0))), rfl, hg.frame _, fun h => by cases h⟩

theorem said : Rows.fourBackRow.holds Tryd.pinned (OpenSpec.ofChange Rows.fourBackSpec) :=
  OpenClaim.holds_of_cond 4 Tryd.f4 rfl rfl rfl rfl rfl rfl rfl ⟨rfl, rfl, rfl, rfl, rfl⟩ rfl rfl rfl rfl rfl (by kernel_rfl) Tryd.func4 (by kernel_rfl)
    (of_decide_eq_true (by kernel_rfl)) (by unfold Func.isWrapper; first | (rw [if_pos (by decide +kernel)]; kernel_rfl) | (rw [if_neg (by decide +kernel)]; exact ⟨rfl, rfl⟩))
    (fun os started H enc _ F => by rw [OpenClaim.pre_eq_preRow]; exact lifted os started H enc F)

/-- No parameter wants a stand-in; the program's own looks are off. -/
theorem plain (f : FuncId) (fn : Func) (hf : Tryd.pinned.checked.prog.funcNamed Rows.fourBackRow.func = some f) (hfn : Tryd.pinned.checked.prog.funcs[f]? = some fn) :
    false = Tryd.pinned.checked.prog.looks [] ∧ ∀ (j : Nat) t, fn.params[j]? = some t → Tryd.pinned.checked.prog.wantsStandIn t = false := by
  obtain rfl : f = 4 := Option.some.inj ((show Tryd.prog.funcNamed Rows.fourBackRow.func = some 4 by kernel_rfl).symm.trans hf) |>.symm
  obtain rfl : fn = Tryd.f4 := (Option.some.inj (Tryd.func4.symm.trans hfn)).symm
  refine ⟨by kernel_rfl, fun j t ht => ?_⟩
  rw [Tryd.params4] at ht
  obtain rfl | rfl : t = 9 ∨ t = 3 := by simpa using Array.mem_of_getElem? ht
  · exact (show Tryd.prog.wantsStandIn 9 = false by kernel_rfl)
  · exact (show Tryd.prog.wantsStandIn 3 = false by kernel_rfl)

/-- The statement: the card. -/
theorem proved : Rows.FourBackCardSaid :=
  Claim7.holds_tied_plain_at .later [] _ _ _ _ said (fun _ h => by cases h) (by kernel_rfl) (fun _ h => by cases h) fourBack_row_tie rfl ⟨rfl, rfl⟩ (by kernel_rfl) rfl plain (by kernel_rfl)
#print axioms proved
end Go.Proofs.YtknlahgcpnhaiaaDoor.fourBack
