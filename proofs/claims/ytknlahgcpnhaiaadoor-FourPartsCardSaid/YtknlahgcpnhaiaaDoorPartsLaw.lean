/-
  The law FourParts holds for every input: for every four bytes the call returns true and leaves what was there as it was. No condition of its own; the card: the two listed tables of unicode/utf8 lie as their texts lay them (tied).
-/
import Derived.Test.YtknlahgcpnhaiaaDoorCards
import Derived.Test.YtknlahgcpnhaiaaDoorTie
import Derived.WalkKit
import Derived.ProofKit
import Derived.OpenShut
import Derived.ShutString
import Derived.Test.YtknlahgcpnhaiaaDoorLaid
import Derived.Test.YtknlahgcpnhaiaaDoorFAwake
namespace Go.Proofs.YtknlahgcpnhaiaaDoor.fourParts
open Go.ChangeShapes Go.WideShapes Go.ChangeAt Go.RowKit
open Go.ChangeMaps (open_string shut_string)
open Go.Shelf
open Go.Proofs.YtknlahgcpnhaiaaDoor.Four
set_option linter.unusedSimpArgs false
set_option linter.unusedVariables false      -- a walk need not use every 'w<i>' (that an integer argument fits its kind)

theorem own : ownKnob Tryd.prog.godebug = none := by kernel_rfl

theorem text_cat (a b : ByteArray) (l r : List UInt8) (ha : a.data.toList = l) (hb : b.data.toList = r) : (a ++ b).data.toList = l ++ r := by rw [Deci.text_append, ha, hb]
theorem par_more (n : Nat) : parB (show4 n ++ [46, 48]) = false := par_count _ (by rw [List.count_append, count_show]; decide)
theorem par_dot (n : Nat) : parB (show4 n ++ [46]) = false := par_count _ (by rw [List.count_append, count_show]; decide)
theorem par_ahead (n : Nat) : parB ([46] ++ show4 n) = false := par_count _ (by rw [List.count_append, count_show]; decide)
theorem inner_num (a b c d : Nat) (hb : b ≤ 255) (hc : c ≤ 255) (hd : d ≤ 255) : innerB ((num4 a b c d : Nat) : Int) = ((a : Int) == 127) := by
  unfold innerB num4
  rw [Bool.eq_iff_iff]
  simp
  omega

set_option maxRecDepth 100000 in
set_option maxHeartbeats 4000000 in
theorem walkIn (a b c d : Nat) (ha : (a : Int) ≤ 255) (hb : (b : Int) ≤ 255) (hc : (c : Int) ≤ 255) (hd : (d : Int) ≤ 255) (N : Nat) (hN : Hid (num4 a b c d = N)) (hz : (a : Int) * 16777216 + (b : Int) * 65536 + (c : Int) * 256 + (d : Int) = (N : Int))
    (tx : ByteArray) (ht : Hid ((⟨(show4 N).toArray⟩ : ByteArray) = tx)) (htl : tx.size ≤ 15) (hn : Hid (N ≤ 4294967295)) (q : Bool) (hq : Hid (innerB (N : Int) = q)) (hq1 : ((a : Int) == 127) = q) (m : Int) (w : World) (hm : Hid (MaxAt m w)) :
    Calls Tryd.prog 5 #[.int .u8 a, .int .u8 b, .int .u8 c, .int .u8 d] w fun e w' => e = .returned (.bool true) ∧ Below w.heap.size w w' := by
  go_enter Tryd.func5, Tryd.ntmps5
  go_wp2_with fail
  refine (awake_calls m _ hm.out).mono ?_
  rintro e u1 ⟨rfl, hB1⟩
  go_wp2_with fail
  have e1 := showIn N hn.out u1
  rw [ht.out] at e1
  refine e1.mono ?_
  rintro e u2 ⟨rfl, hB2⟩
  clear e1
  have hB := Lib.hid (Deci.below2 hB1 hB2)
  clear hB1 hB2
  have HT := Lib.hid (show tx.data.toList = show4 N by rw [← ht.out])
  have HTL := Lib.hid htl
  go_wp2_with fail
  refine (parse_at tx (by have := HTL.out; omega) (N : Int) true (by rw [HT.out]; exact parI_show N hn.out) (by rw [HT.out]; exact parB_show N hn.out) m _ (hm.out.later hB.out)).mono ?_
  rintro e u3 ⟨rfl, hB3⟩
  have hC := Lib.hid (Deci.below2 hB.out hB3)
  clear hB hB3
  go_wp2_with fail
  have p1 : parB (tx ++ ⟨#[46, 48]⟩).data.toList = false := by rw [text_cat _ _ _ _ HT.out rfl]; exact par_more N
  refine (parse_at _ (by rw [ByteArray.size_append]; have := HTL.out; show tx.size + 2 ≤ 1000000; omega) 0 false (parI_none _ p1) p1 m _ (hm.out.later hC.out)).mono ?_
  rintro e u4 ⟨rfl, hB4⟩
  clear p1
  have hD := Lib.hid (Deci.below2 hC.out hB4)
  clear hC hB4
  go_wp2_with fail
  have p2 : parB (tx ++ ⟨#[46]⟩).data.toList = false := by rw [text_cat _ _ _ _ HT.out rfl]; exact par_dot N
  refine (parse_at _ (by rw [ByteArray.size_append]; have := HTL.out; show tx.size + 1 ≤ 1000000; omega) 0 false (parI_none _ p2) p2 m _ (hm.out.later hD.out)).mono ?_
  rintro e u5 ⟨rfl, hB5⟩
  clear p2
  have hE := Lib.hid (Deci.below2 hD.out hB5)
  clear hD hB5
  go_wp2_with fail
  have p3 : parB ((⟨#[46]⟩ : ByteArray) ++ tx).data.toList = false := by rw [text_cat _ _ _ _ rfl HT.out]; exact par_ahead N
  refine (parse_at _ (by rw [ByteArray.size_append]; have := HTL.out; show 1 + tx.size ≤ 1000000; omega) 0 false (parI_none _ p3) p3 m _ (hm.out.later hE.out)).mono ?_
  rintro e u6 ⟨rfl, hB6⟩
  clear p3
  have hF := Lib.hid (Deci.below2 hE.out hB6)
  clear hE hB6
  go_wp2_with fail
  have p4 : parB ((⟨#[48]⟩ : ByteArray) ++ tx).data.toList = false := by rw [text_cat _ _ _ _ rfl HT.out]; exact par_zero N hn.out
  refine (parse_at _ (by rw [ByteArray.size_append]; have := HTL.out; show 1 + tx.size ≤ 1000000; omega) 0 false (parI_none _ p4) p4 m _ (hm.out.later hF.out)).mono ?_
  rintro e u7 ⟨rfl, hB7⟩
  clear p4
  have hG := Lib.hid (Deci.below2 hF.out hB7)
  clear hF hB7
  go_wp2_with fail
  have hin := inner_any (N : Int) u7
  rw [hq.out] at hin
  refine hin.mono ?_
  rintro e u ⟨rfl, rfl⟩
  clear hin
  go_wp2
  go_ret
  exact ⟨rfl, hG.out⟩

theorem nat_of {a : Int} (h : (Lit.int .u8 a).wf = true) : ∃ k : Nat, a = (k : Int) ∧ k ≤ 255 := by
  have := bounds_u8 h
  exact ⟨a.toNat, by omega, by omega⟩
theorem walk (a0 a1 a2 a3 : Int) (w0 : (Lit.int .u8 a0).wf = true) (w1 : (Lit.int .u8 a1).wf = true) (w2 : (Lit.int .u8 a2).wf = true) (w3 : (Lit.int .u8 a3).wf = true) (m : Int) (w : World) (hm : w.cell? ⟨0, 0, none⟩ = some (.int .i64 m)) :
    Calls Tryd.prog 5 #[.int .u8 a0, .int .u8 a1, .int .u8 a2, .int .u8 a3] w fun e w' => e = .returned (.bool true) ∧ Below w.heap.size w w' := by
  obtain ⟨a, rfl, ha⟩ := nat_of w0
  obtain ⟨b, rfl, hb⟩ := nat_of w1
  obtain ⟨c, rfl, hc⟩ := nat_of w2
  obtain ⟨d, rfl, hd⟩ := nat_of w3
  have hn : num4 a b c d ≤ 4294967295 := by unfold num4; omega
  exact walkIn a b c d (by omega) (by omega) (by omega) (by omega) (num4 a b c d) (Lib.hid rfl) (by unfold num4; omega) _ (Lib.hid rfl) (show4_len _ hn).2 (Lib.hid hn) _ (Lib.hid rfl) (inner_num a b c d hb hc hd).symm m w (Lib.hid hm)

/-! ### The row's step -/
theorem reads (os : Os) {H : Type} (enc : TypeId × Value → H) : (DataW.whole enc Tryd.prog ((Card.laidWorld os).forCall (fun _ _ => 0) ⟨#[], #[.int .u8 0, .int .u8 0, .int .u8 0, .int .u8 0], []⟩).memory Tryd.f5.params.toList Rows.fourPartsSpec.vars false (#[.int .u8 0, .int .u8 0, .int .u8 0, .int .u8 0] : Array Value).toList 8).map (fun x => (x.1, x.2.1)) = some ([.lit (.int .u8 0), .lit (.int .u8 0), .lit (.int .u8 0), .lit (.int .u8 0)], []) := by kernel_rfl
set_option maxRecDepth 100000 in
theorem lifted (os : Os) (started : os.Started) (H : Type) (enc : TypeId × Value → H) (F : Stop.Interp) :
    ReturnsInHanded {} Tryd.checked os 5 .any ((OpenSpec.ofChange Rows.fourPartsSpec).preRow enc Tryd.prog Tryd.f5 Rows.fourPartsRow.domain false Rows.fourPartsRow.laid) (((OpenSpec.ofChange Rows.fourPartsSpec).at F).post enc Tryd.prog Tryd.f5 false true false false) := by
  obtain ⟨⟨x1, x2, x3⟩, hx, hx1⟩ := Option.map_eq_some_iff.1 (reads os enc)
  simp only [Prod.mk.injEq] at hx1
  obtain ⟨rfl, rfl⟩ := hx1
  refine returnsInHanded_of_row (C := Tryd.checked) (s := OpenSpec.ofChange Rows.fourPartsSpec) own started (by kernel_rfl) Tryd.func5
    (witness_row_at (enc := enc) (C := Tryd.checked) false (Card.laidWorld os) #[.int .u8 0, .int .u8 0, .int .u8 0, .int .u8 0] rfl (by kernel_rfl) (by kernel_rfl) (by kernel_rfl)
      (OpenSpec.preRow_of_cond 8 hx (by kernel_rfl) (fun k hk => by cases hk) (by kernel_rfl) (Card.laid_met os _))) ?_
  intro W base args ds gs before hval0 hW _ _ _ hL hsh _
  obtain ⟨m, hm⟩ := Card.maxLen_int hsh
  have hval : ∀ (j : Nat) t v, Tryd.f5.params[j]? = some t → args[j]? = some v → Value.okWide Tryd.prog W .any base t v := hval0
  have hW' := hW
  obtain ⟨p, q, hA0, hV, rfl, hfz, hnd⟩ := hW
  have hA : DataW.TrodAll enc Tryd.prog W 0 (fun _ => true) true Tryd.f5.params.toList args.toList ds p := hA0
  rw [Tryd.params5] at hA hval
  obtain ⟨v0, vs0, d0, ds0, p0, q0, hargs, rfl, rfl, h0, r0⟩ := trodAll_cons hA
  obtain ⟨v1, vs1, d1, ds1, p1, q1, rfl, rfl, rfl, h1, r1⟩ := trodAll_cons r0
  obtain ⟨v2, vs2, d2, ds2, p2, q2, rfl, rfl, rfl, h2, r2⟩ := trodAll_cons r1
  obtain ⟨v3, vs3, d3, ds3, p3, q3, rfl, rfl, rfl, h3, r3⟩ := trodAll_cons r2
  obtain ⟨rfl, rfl, rfl⟩ := trodAll_nil r3
  obtain rfl : args = #[v0, v1, v2, v3] := by cases args; simp_all
  obtain ⟨rfl, rfl⟩ := trodVars_none hV
  obtain ⟨a0, rfl, rfl, rfl, w0⟩ := open_int Tryd.underlying5 (hval 0 5 v0 rfl rfl) h0
  obtain ⟨a1, rfl, rfl, rfl, w1⟩ := open_int Tryd.underlying5 (hval 1 5 v1 rfl rfl) h1
  obtain ⟨a2, rfl, rfl, rfl, w2⟩ := open_int Tryd.underlying5 (hval 2 5 v2 rfl rfl) h2
  obtain ⟨a3, rfl, rfl, rfl, w3⟩ := open_int Tryd.underlying5 (hval 3 5 v3 rfl rfl) h3
  clear hA0 hval0
  simp only [List.append_nil] at hW'
  refine (walk a0 a1 a2 a3 w0 w1 w2 w3 m W hm).mono fun e W' ⟨he, hg⟩ => ?_
  subst he
  exact ⟨_, rfl, _, _, _, [], _, [], hW', trodAll_mk1 (shut_bool Tryd.underlying4 _), (trodAll_cons_mk (shut_int Tryd.underlying5 w0) (trodAll_cons_mk (shut_int Tryd.underlying5 w1) (trodAll_cons_mk (shut_int Tryd.underlying5 w2) (trodAll_cons_mk (shut_int Tryd.underlying5 w3) trodAll_mk0)))), rfl, hg.frame _, fun h => by cases h⟩

theorem said : Rows.fourPartsRow.holds Tryd.pinned (OpenSpec.ofChange Rows.fourPartsSpec) :=
  OpenClaim.holds_of_cond 5 Tryd.f5 rfl rfl rfl rfl rfl rfl rfl ⟨rfl, rfl, rfl, rfl, rfl⟩ rfl rfl rfl rfl rfl (by kernel_rfl) Tryd.func5 (by kernel_rfl)
    (of_decide_eq_true (by kernel_rfl)) (by unfold Func.isWrapper; first | (rw [if_pos (by decide +kernel)]; kernel_rfl) | (rw [if_neg (by decide +kernel)]; exact ⟨rfl, rfl⟩))
    (fun os started H enc _ F => by rw [OpenClaim.pre_eq_preRow]; exact lifted os started H enc F)

/-- No parameter wants a stand-in; the program's own looks are off. -/
theorem plain (f : FuncId) (fn : Func) (hf : Tryd.pinned.checked.prog.funcNamed Rows.fourPartsRow.func = some f) (hfn : Tryd.pinned.checked.prog.funcs[f]? = some fn) :
    false = Tryd.pinned.checked.prog.looks [] ∧ ∀ (j : Nat) t, fn.params[j]? = some t → Tryd.pinned.checked.prog.wantsStandIn t = false := by
  obtain rfl : f = 5 := Option.some.inj ((show Tryd.prog.funcNamed Rows.fourPartsRow.func = some 5 by kernel_rfl).symm.trans hf) |>.symm
  obtain rfl : fn = Tryd.f5 := (Option.some.inj (Tryd.func5.symm.trans hfn)).symm
  refine ⟨by kernel_rfl, fun j t ht => ?_⟩
  rw [Tryd.params5] at ht
  obtain rfl : t = 5 := by simpa using Array.mem_of_getElem? ht
  · exact (show Tryd.prog.wantsStandIn 5 = false by kernel_rfl)

/-- The statement: the card. -/
theorem proved : Rows.FourPartsCardSaid :=
  Claim7.holds_tied_plain_at .later [] _ _ _ _ said (fun _ h => by cases h) (by kernel_rfl) (fun _ h => by cases h) fourParts_row_tie rfl ⟨rfl, rfl⟩ (by kernel_rfl) rfl plain (by kernel_rfl)
#print axioms proved
end Go.Proofs.YtknlahgcpnhaiaaDoor.fourParts
