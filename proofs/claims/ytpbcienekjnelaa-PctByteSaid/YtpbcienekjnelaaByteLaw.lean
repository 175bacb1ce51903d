/-
  The law PctByte holds for every input: for every byte and every number of a set the call returns true and leaves what was there as it was. No condition.
-/
import Derived.Test.YtpbcienekjnelaaRows
import Derived.WalkKit
import Derived.ProofKit
import Derived.OpenShut
import Derived.ShutString
import Derived.Test.YtpbcienekjnelaaPAwake
namespace Go.Proofs.Ytpbcienekjnelaa.pctByte
open Go.ChangeShapes Go.WideShapes Go.ChangeAt Go.RowKit
open Go.ChangeMaps (open_string shut_string)
open Go.Shelf
open Go.Proofs.Ytpbcienekjnelaa.Pct
set_option linter.unusedSimpArgs false
set_option linter.unusedVariables false      -- a walk need not use every 'w<i>' (that an integer argument fits its kind)

theorem own : ownKnob Try.prog.godebug = none := by kernel_rfl

open Ascii (Held held_new held_set mixed mixed_zero mixed_length mixed_get mixed_set mixed_keep mixed_all lower lowB lowI lowB_toNat)

set_option maxRecDepth 100000 in
set_option maxHeartbeats 4000000 in
theorem walkOut (y : UInt8) (set : Int) (x : ByteArray) (hx : Hid ((⟨(encode set (⟨#[y]⟩ : ByteArray).data.toList).toArray⟩ : ByteArray) = x)) (hin : Hid (inB set y = false)) (l1 : x.size ≤ 3)
    (n1 : ((x.size : Int) == 1) = true) (n3 : ((x.size : Int) == 3) = false) (ex : (x.toList == [y]) = true) (w : World) :
    Calls Try.prog 8 #[.int .u8 (y.toNat : Int), .int .i64 set] w fun e w' => e = .returned (.bool true) ∧ Below w.heap.size w w' := by
  go_enter Try.func8, Try.ntmps8
  go_wp2_with fail
  refine (awake_at (Below.refl _ w)).mono ?_
  rintro e u ⟨rfl, hB⟩
  have hcv := one_conv u y
  go_wp2_with fail
  refine (encode_at ⟨#[y]⟩ (show 1 ≤ 1000000 by omega) set x hx.out (hB.alloc hB.size _)).mono ?_
  rintro e u2 ⟨rfl, hB2⟩
  clear hcv
  have hcv := run_bytes_of_string u2 9 30 5 x Try.underlying9 Try.underlying30 Try.underlying5 (P := Try.prog)
  generalize grownCap u2 x.size 0 5 = cap at hcv
  go_wp2
  have hB3 : Below w.heap.size w (u2.alloc (.cells (bytesRow x cap) 5 ((bytesRow x cap).size, (bytesRow x cap).size + 1))).drew := (hB2.alloc hB2.size _).drew
  have hH3 : Held (u2.alloc (.cells (bytesRow x cap) 5 ((bytesRow x cap).size, (bytesRow x cap).size + 1))).drew u2.heap.size x.data.toList := held_new u2 x cap
  clear hcv
  generalize (u2.alloc (.cells (bytesRow x cap) 5 ((bytesRow x cap).size, (bytesRow x cap).size + 1))).drew = W at hB3 hH3
  have HH := Lib.hid hH3
  clear hH3
  go_loop [9] (fun i => ∃ k : Nat, k ≤ x.size ∧ i = .int .i64 k) (fun i => x.size - (intOf i).toNat)
  case atStart => exact ⟨0, Nat.zero_le _, rfl⟩
  case round =>
    obtain ⟨k, hk, rfl⟩ := hrel
    by_cases hlt : k < x.size
    · have hc : W.cell? ⟨u2.heap.size, k, none⟩ = some (.int .u8 (x[k].toNat : Int)) := (HH.out k hlt).1
      have t1 : (k : Int) < x.size := by omega
      have ways : decide (65 ≤ (x[k].toNat : Int)) = false ∨ (decide (65 ≤ (x[k].toNat : Int)) = true ∧ decide ((x[k].toNat : Int) ≤ 70) = false) ∨ (decide (65 ≤ (x[k].toNat : Int)) = true ∧ decide ((x[k].toNat : Int) ≤ 70) = true) := by
        cases decide (65 ≤ (x[k].toNat : Int)) <;> cases decide ((x[k].toNat : Int) ≤ 70) <;> simp
      rcases ways with q1 | ⟨q1, q2⟩ | ⟨q1, q2⟩
      all_goals
        go_wp2
        go_round
        case rel => exact ⟨k + 1, by omega, by go_num⟩
        case measure => simp [intOf]; omega
    · obtain rfl : k = x.size := by omega
      go_wp2_with (go_at_call 13; refine (in_at set y false hin.out hB3).mono ?_; rintro e u4 ⟨rfl, hB4⟩)
      go_ret
      exact ⟨rfl, hB4⟩

set_option maxRecDepth 100000 in
set_option maxHeartbeats 4000000 in
theorem walkIn (y : UInt8) (set : Int) (x lw : ByteArray) (hx : Hid ((⟨(encode set (⟨#[y]⟩ : ByteArray).data.toList).toArray⟩ : ByteArray) = x)) (hin : Hid (inB set y = true)) (l3 : x.size ≤ 3) (k0 : 0 < x.size)
    (n1 : ((x.size : Int) == 1) = false) (n3 : ((x.size : Int) == 3) = true) (e0 : ((x[0].toNat : Int) == 37) = true)
    (hlw : Hid ((⟨(lower x.data.toList).toArray⟩ : ByteArray) = lw)) (d1 : Hid ((⟨(Pct.decode x.data.toList).toArray⟩ : ByteArray) = ⟨#[y]⟩)) (d2 : Hid ((⟨(Pct.decode lw.data.toList).toArray⟩ : ByteArray) = ⟨#[y]⟩)) (hl : Hid (lw.size = x.size))
    (hways : Hid (∀ k (h : k < x.size), (decide (65 ≤ (x[k].toNat : Int)) = false ∧ lowB x[k] = x[k]) ∨ (decide (65 ≤ (x[k].toNat : Int)) = true ∧ decide ((x[k].toNat : Int) ≤ 70) = true ∧ ((lowB x[k]).toNat : Int) = (x[k].toNat : Int) + 32))) (w : World) :
    Calls Try.prog 8 #[.int .u8 (y.toNat : Int), .int .i64 set] w fun e w' => e = .returned (.bool true) ∧ Below w.heap.size w w' := by
  go_enter Try.func8, Try.ntmps8
  go_wp2_with fail
  refine (awake_at (Below.refl _ w)).mono ?_
  rintro e u ⟨rfl, hB⟩
  have hcv := one_conv u y
  go_wp2_with fail
  refine (encode_at ⟨#[y]⟩ (show 1 ≤ 1000000 by omega) set x hx.out (hB.alloc hB.size _)).mono ?_
  rintro e u2 ⟨rfl, hB2⟩
  clear hcv
  have hcv := run_bytes_of_string u2 9 30 5 x Try.underlying9 Try.underlying30 Try.underlying5 (P := Try.prog)
  generalize grownCap u2 x.size 0 5 = cap at hcv
  go_wp2
  have hB3 : Below w.heap.size w (u2.alloc (.cells (bytesRow x cap) 5 ((bytesRow x cap).size, (bytesRow x cap).size + 1))).drew := (hB2.alloc hB2.size _).drew
  have hH3 : Held (u2.alloc (.cells (bytesRow x cap) 5 ((bytesRow x cap).size, (bytesRow x cap).size + 1))).drew u2.heap.size (mixed x.data.toList 0) := by rw [mixed_zero]; exact held_new u2 x cap
  have hz3 : u2.heap.size < (u2.alloc (.cells (bytesRow x cap) 5 ((bytesRow x cap).size, (bytesRow x cap).size + 1))).drew.heap.size := by simp [World.drew]
  clear hcv
  generalize (u2.alloc (.cells (bytesRow x cap) 5 ((bytesRow x cap).size, (bytesRow x cap).size + 1))).drew = W at hB3 hH3 hz3
  have hsz : x.data.toList.length = x.size := rfl
  have HSZ := Lib.hid hsz
  clear hsz
  go_loopw [9] (fun i wr => ∃ k : Nat, k ≤ x.size ∧ i = .int .i64 k ∧ Held wr u2.heap.size (mixed x.data.toList k) ∧ Below w.heap.size w wr ∧ u2.heap.size < wr.heap.size) (fun i _ => x.size - (intOf i).toNat)
  case atStart => exact ⟨0, Nat.zero_le _, rfl, hH3, hB3, hz3⟩
  case round =>
    clear hH3 hB3 hz3
    obtain ⟨k, hk, rfl, hH, hw, hz⟩ := hrel
    have HH := Lib.hid hH
    clear hH
    by_cases hlt : k < x.size
    · have hkl : k < x.data.toList.length := hlt
      have hml : k < (mixed x.data.toList k).length := by rw [mixed_length _ _ (Nat.le_of_lt hkl)]; exact hkl
      obtain ⟨hc0, hf⟩ := HH.out k hml
      rw [mixed_get _ _ hkl] at hc0
      have hc : wr.cell? ⟨u2.heap.size, k, none⟩ = some (.int .u8 ((x[k]'hlt).toNat : Int)) := hc0
      clear hc0
      have t1 : (k : Int) < x.size := by omega
      clear hkl hml
      rcases hways.out k hlt with ⟨q1, q2⟩ | ⟨q1, q2, q3⟩
      · have hv := Lib.hid (mixed_keep x.data.toList k hlt q2)
        clear q2
        go_wp2
        go_roundw
        case rel => exact ⟨k + 1, by omega, by go_num, by rw [← hv.out]; exact HH.out, hw, hz⟩
        case measure => simp [intOf]; omega
      · have hlow := Lib.hid q3
        clear q3
        have q2' : (x[k].toNat : Int) ≤ 70 := by simpa using q2
        go_wp2
        go_roundw
        case rel =>
          refine ⟨k + 1, by omega, by go_num, ?_, hw.setCell (p := ⟨u2.heap.size, k, none⟩) (show w.heap.size ≤ u2.heap.size from hB2.size) _, by simpa using hz⟩
          have hml : k < (mixed x.data.toList k).length := by rw [mixed_length _ _ (Nat.le_of_lt hlt)]; exact hlt
          have h3 := held_set HH.out k hml (lowB x[k])
          rw [hlow.out] at h3
          have h4 := mixed_set x.data.toList k hlt
          rw [← h4]
          exact h3
        case measure => simp [intOf]; omega
    · obtain rfl : k = x.size := by omega
      have hH := HH.out
      rw [← HSZ.out, mixed_all] at hH
      go_wp2_with fail
      refine (decode_any x (by omega) wr).mono ?_
      rintro e u4 ⟨rfl, hB4⟩
      rw [d1.out]
      have hcv := run_convert_bytes_back (P := Try.prog) u4 30 9 5 ⟨u2.heap.size, 0, none⟩ cap (lower x.data.toList) Try.underlying30 Try.underlying5 Try.underlying9 (fun j hj => by
        have e : (⟨u2.heap.size, 0, none⟩ : Addr).add j = ⟨u2.heap.size, j, none⟩ := by unfold Addr.add; split <;> simp_all
        rw [e]
        exact (hB4.cell (p := ⟨u2.heap.size, j, none⟩) hz).trans (hH j hj).1)
      have hll : (lower x.data.toList).length = x.size := List.length_map _
      rw [hll, hlw.out] at hcv
      clear hH hll
      have hB5 : Below w.heap.size w u4 := hw.trans (hB4.mono hw.size)
      have hll2 : lw.size ≤ 3 := by rw [hl.out]; exact l3
      go_wp2_with (first | (go_at_call 16; refine (decode_at lw (by omega) _ d2.out hB5).mono ?_; rintro e u5 ⟨rfl, hB6⟩) | (go_at_call 13; refine (in_at set y true hin.out hB6).mono ?_; rintro e u6 ⟨rfl, hB7⟩))
      go_ret
      exact ⟨rfl, hB7⟩

/-- A byte of what stands in place of one. -/
def Way (b : UInt8) : Prop := (decide (65 ≤ (b.toNat : Int)) = false ∧ lowB b = b) ∨ (decide (65 ≤ (b.toNat : Int)) = true ∧ decide ((b.toNat : Int) ≤ 70) = true ∧ ((lowB b).toNat : Int) = (b.toNat : Int) + 32)
instance (b : UInt8) : Decidable (Way b) := by unfold Way; infer_instance
theorem way16 : ∀ n : Fin 16, Way (hexC n.val) := by decide +kernel
theorem way37 : Way 37 := by decide +kernel
theorem low16 : ∀ n : Fin 16, hexB (lowB (hexC n.val)) = true ∧ hexN (lowB (hexC n.val)) = n.val := by decide +kernel

theorem walk (a0 : Int) (a1 : Int) (w0 : (Lit.int .u8 a0).wf = true) (w1 : (Lit.int .i64 a1).wf = true) (w : World) :
    Calls Try.prog 8 #[.int .u8 a0, .int .i64 a1] w fun e w' => e = .returned (.bool true) ∧ Below w.heap.size w w' := by
  obtain ⟨y, rfl⟩ := byte_of w0
  cases hin : inB a1 y
  · have he : encode a1 (⟨#[y]⟩ : ByteArray).data.toList = [y] := by
      show encode a1 [y] = [y]
      rw [encode_cons, enc1_out hin, encode_nil]; rfl
    exact walkOut y a1 ⟨#[y]⟩ (Lib.hid (by rw [he])) (Lib.hid hin) (show 1 ≤ 3 by omega) rfl rfl (by rw [ByteArray.toList_eq]; simp) w
  · have he : encode a1 (⟨#[y]⟩ : ByteArray).data.toList = [37, hexC (y.toNat / 16), hexC (y.toNat % 16)] := by
      show encode a1 [y] = _
      rw [encode_cons, enc1_in hin, encode_nil]; rfl
    have hd := decode_enc y []
    rw [decode_nil] at hd
    have g1 := low16 ⟨_, (div16 y).1⟩
    have g2 := low16 ⟨_, (div16 y).2⟩
    have hd2 : Pct.decode [lowB 37, lowB (hexC (y.toNat / 16)), lowB (hexC (y.toNat % 16))] = [y] := by
      have ht : told [37, lowB (hexC (y.toNat / 16)), lowB (hexC (y.toNat % 16))] = some y := by
        rw [told_cons, if_pos ⟨rfl, g1.1, g2.1⟩, g1.2, g2.2, show 16 * (y.toNat / 16) + y.toNat % 16 = y.toNat by omega]
        exact congrArg some UInt8.ofNat_toNat
      show Pct.decode [37, lowB (hexC (y.toNat / 16)), lowB (hexC (y.toNat % 16))] = [y]
      rw [decode_some ht]
      show y :: Pct.decode [] = [y]
      rw [decode_nil]
    refine walkIn y a1 ⟨#[37, hexC (y.toNat / 16), hexC (y.toNat % 16)]⟩ ⟨#[lowB 37, lowB (hexC (y.toNat / 16)), lowB (hexC (y.toNat % 16))]⟩ (Lib.hid (by rw [he])) (Lib.hid hin) (Nat.le_refl 3) (show 0 < 3 by omega) rfl rfl rfl (Lib.hid rfl)
      (Lib.hid (congrArg (fun l : List UInt8 => (⟨l.toArray⟩ : ByteArray)) hd)) (Lib.hid (congrArg (fun l : List UInt8 => (⟨l.toArray⟩ : ByteArray)) hd2)) (Lib.hid rfl) (Lib.hid ?_) w
    intro k hk
    match k, hk with
    | 0, _ => exact way37
    | 1, _ => exact way16 ⟨_, (div16 y).1⟩
    | 2, _ => exact way16 ⟨_, (div16 y).2⟩
    | k + 3, hk => exact absurd hk (by show ¬ k + 3 < 3; omega)

/-! ### The row's step -/
set_option maxRecDepth 100000 in
theorem lifted (os : Os) (started : os.Started) (H : Type) (enc : TypeId × Value → H) :
    ReturnsInHanded {} Try.checked os 8 .any (Rows.pctByteSpec.pre6 enc Try.prog Try.f8 Rows.pctByteRow.domain false) (Rows.pctByteSpec.post enc Try.prog Try.f8 false true false false) := by
  refine returnsInHanded_of_change (C := Try.checked) own started (by kernel_rfl) Try.func8
    (ChangeSpec.witness6 (enc := enc) (C := Try.checked) false ⟨#[], #[.int .u8 0, .int .i64 0], []⟩ 8 (by kernel_rfl) (by kernel_rfl) (by kernel_rfl) (by kernel_rfl)) ?_
  intro W base args ds gs before hval0 hW hcnd _
  have hval : ∀ (j : Nat) t v, Try.f8.params[j]? = some t → args[j]? = some v → Value.okWide Try.prog W .any base t v := hval0
  have hW' := hW
  obtain ⟨p, q, hA0, hV, rfl, hfz, hnd⟩ := hW
  have hA : DataW.TrodAll enc Try.prog W 0 (fun _ => true) true Try.f8.params.toList args.toList ds p := hA0
  rw [Try.params8] at hA hval
  obtain ⟨v0, vs0, d0, ds0, p0, q0, hargs, rfl, rfl, h0, r0⟩ := trodAll_cons hA
  obtain ⟨v1, vs1, d1, ds1, p1, q1, rfl, rfl, rfl, h1, r1⟩ := trodAll_cons r0
  obtain ⟨rfl, rfl, rfl⟩ := trodAll_nil r1
  obtain rfl : args = #[v0, v1] := by cases args; simp_all
  obtain ⟨rfl, rfl⟩ := trodVars_none hV
  obtain ⟨a0, rfl, rfl, rfl, w0⟩ := open_int Try.underlying5 (hval 0 5 v0 rfl rfl) h0
  obtain ⟨a1, rfl, rfl, rfl, w1⟩ := open_int Try.underlying3 (hval 1 3 v1 rfl rfl) h1
  clear hA0 hval0
  simp only [List.append_nil] at hW'
  refine (walk a0 a1 w0 w1 W).mono fun e W' ⟨he, hg⟩ => ?_
  subst he
  exact ⟨_, rfl, _, _, _, [], _, [], hW', trodAll_mk1 (shut_bool Try.underlying4 _), (trodAll_cons_mk (shut_int Try.underlying5 w0) (trodAll_cons_mk (shut_int Try.underlying3 w1) trodAll_mk0)), rfl, hg.frame _, fun h => by cases h⟩

theorem over : Rows.pctByteRow.holds Try.pinned (OpenSpec.ofChange Rows.pctByteSpec) :=
  OpenClaim.holds_of_wide 8 Try.f8 rfl rfl rfl rfl rfl rfl rfl ⟨rfl, rfl, rfl, rfl, rfl⟩ rfl rfl rfl rfl rfl (by kernel_rfl) Try.func8 (by kernel_rfl)
    (of_decide_eq_true (by kernel_rfl)) (by unfold Func.isWrapper; first | (rw [if_pos (by decide +kernel)]; kernel_rfl) | (rw [if_neg (by decide +kernel)]; exact ⟨rfl, rfl⟩))
    (fun os started H enc _ => lifted os started H enc)

/-- The statement. -/
theorem proved : Rows.PctByteSaid :=
  over
#print axioms proved
end Go.Proofs.Ytpbcienekjnelaa.pctByte
