/-
  first(s), Decode(s).
-/
import Derived.Test.YtpbcienekjnelaaPMember
import Derived.Deep.QuietTactic
import Derived.BigQuiet
import Derived.OwnWalk
import Derived.Maps.AppendAt
namespace Go.Proofs.Ytpbcienekjnelaa.Pct
open Go.RowKit
set_option linter.unusedSimpArgs false
set_option linter.unusedVariables false

/-- What a byte is worth to the base of 16, if it is worth something. -/
def hexN (c : UInt8) : Nat := (Ascii.hexI (c.toNat : Int)).toNat
def hexB (c : UInt8) : Bool := decide (0 ≤ Ascii.hexI (c.toNat : Int))
/-- The byte that is told at the beginning of a text by a percent sign. -/
def told : List UInt8 → Option UInt8
  | a :: b :: c :: _ => if a = 37 ∧ hexB b = true ∧ hexB c = true then some (UInt8.ofNat (16 * hexN b + hexN c)) else none
  | _ => none
def decode (l : List UInt8) : List UInt8 :=
  match l with
  | [] => []
  | a :: r => match told (a :: r) with
    | some x => x :: decode (r.drop 2)
    | none => a :: decode r
termination_by l.length
decreasing_by all_goals (simp; try omega)

theorem told_cons (a b c : UInt8) (r : List UInt8) : told (a :: b :: c :: r) = if a = 37 ∧ hexB b = true ∧ hexB c = true then some (UInt8.ofNat (16 * hexN b + hexN c)) else none := rfl
theorem decode_nil : decode [] = [] := by unfold decode; rfl
theorem decode_some {a : UInt8} {r : List UInt8} {x : UInt8} (h : told (a :: r) = some x) : decode (a :: r) = x :: decode (r.drop 2) := by
  rw [decode]; rw [h]
theorem decode_none {a : UInt8} {r : List UInt8} (h : told (a :: r) = none) : decode (a :: r) = a :: decode r := by
  rw [decode]; rw [h]

set_option maxHeartbeats 1000000 in
theorem first_plain (s : ByteArray) (h0 : 0 < s.size) (hs : s.size ≤ maxLen) (h : ((s[0].toNat : Int) != 37) = true ∨ (((s[0].toNat : Int) != 37) = false ∧ s.size < 3)) (w : World) :
    Calls Try.prog 22 #[.string s] w fun e w' => e = .returned (.tuple #[.int .u8 (s[0].toNat : Int), .int .i64 1]) ∧ w = w' := by
  unfold maxLen at hs
  rcases h with h | ⟨h, h3⟩
  · go_enter Try.func22, Try.ntmps22
    go_wp2
    go_ret2
    exact ⟨rfl, rfl⟩
  · have t : decide ((s.size : Int) < 3) = true := by simp; omega
    go_enter Try.func22, Try.ntmps22
    go_wp2
    go_ret2
    exact ⟨rfl, rfl⟩

theorem hexI_le (c : Int) : -1 ≤ Ascii.hexI c ∧ Ascii.hexI c ≤ 15 := by unfold Ascii.hexI; split <;> (try split) <;> (try split) <;> omega

theorem hex_at (c : Int) (h0 : 0 ≤ c) (h1 : c ≤ 255) (w : World) : Calls Try.prog 26 #[.int .u8 c] w fun e w' => e = .returned (.int .i64 (Ascii.hexI c)) ∧ w' = w :=
  (Ascii.hex_any _ h0 h1 w).mono fun e w' h => ⟨h.1, h.2.symm⟩

theorem bits_or16 : ∀ a b : Fin 16, bits BinOp.or IntKind.i64 ((a.val : Int) * 16) (b.val : Int) % 256 = 16 * (a.val : Int) + b.val := by decide +kernel
theorem bits_or (a b : Int) (a0 : 0 ≤ a) (b0 : 0 ≤ b) (a1 : a ≤ 15) (b1 : b ≤ 15) : bits BinOp.or IntKind.i64 (a * 16) b % 256 = 16 * a + b := by
  obtain ⟨m, rfl⟩ := Int.eq_ofNat_of_zero_le a0
  obtain ⟨n, rfl⟩ := Int.eq_ofNat_of_zero_le b0
  exact bits_or16 ⟨m, by omega⟩ ⟨n, by omega⟩

set_option maxHeartbeats 400000 in
theorem first_told (s : ByteArray) (h3 : 3 ≤ s.size) (hs : s.size ≤ maxLen) (h : ((s[0].toNat : Int) != 37) = false) (a b : Int) (ha : Hid (Ascii.hexI (s[1].toNat : Int) = a)) (hb : Hid (Ascii.hexI (s[2].toNat : Int) = b)) (a0 : 0 ≤ a) (b0 : 0 ≤ b) (a1 : a ≤ 15) (b1 : b ≤ 15) (w : World) :
    Calls Try.prog 22 #[.string s] w fun e w' => e = .returned (.tuple #[.int .u8 (16 * a + b), .int .i64 3]) ∧ ∃ n, w' = w.drewN n := by
  unfold maxLen at hs
  have t : decide ((s.size : Int) < 3) = false := by simp; omega
  have ta : decide (a < 0) = false := by simp; omega
  have tb : decide (b < 0) = false := by simp; omega
  have hv := Lib.hid (bits_or a b a0 b0 a1 b1)
  have i1 : (1 : Int) < s.size := by omega
  have i2 : (2 : Int) < s.size := by omega
  have n1 : 1 < s.size := by omega
  have n2 : 2 < s.size := by omega
  have l1 := s[1].toNat_lt
  have l2 := s[2].toNat_lt
  go_enter Try.func22, Try.ntmps22
  go_wp2
  go_quiet ((go_at_call 26; exact Calls.quiet_of_same (hex_at _ (by omega) (by omega) _)))
  rw [ha.out, hb.out]
  go_wp2
  rw [hv.out]
  go_ret2
  exact ⟨rfl, _, rfl⟩

set_option maxHeartbeats 400000 in
theorem first_sign (s : ByteArray) (h3 : 3 ≤ s.size) (hs : s.size ≤ maxLen) (h : ((s[0].toNat : Int) != 37) = false) (a b : Int) (ha : Hid (Ascii.hexI (s[1].toNat : Int) = a)) (hb : Hid (Ascii.hexI (s[2].toNat : Int) = b))
    (hab : decide (a < 0) = true ∨ (decide (a < 0) = false ∧ decide (b < 0) = true)) (w : World) :
    Calls Try.prog 22 #[.string s] w fun e w' => e = .returned (.tuple #[.int .u8 (s[0].toNat : Int), .int .i64 1]) ∧ ∃ n, w' = w.drewN n := by
  unfold maxLen at hs
  have t : decide ((s.size : Int) < 3) = false := by simp; omega
  have i1 : (1 : Int) < s.size := by omega
  have i2 : (2 : Int) < s.size := by omega
  have n1 : 1 < s.size := by omega
  have n2 : 2 < s.size := by omega
  have l1 := s[1].toNat_lt
  have l2 := s[2].toNat_lt
  rcases hab with ta | ⟨ta, tb⟩
  all_goals
    go_enter Try.func22, Try.ntmps22
    go_wp2
    go_quiet ((go_at_call 26; exact Calls.quiet_of_same (hex_at _ (by omega) (by omega) _)))
    rw [ha.out, hb.out]
    go_wp2
    go_ret2
    exact ⟨rfl, _, rfl⟩

theorem ofNat_toNat (n : Nat) (h : n ≤ 255) : (UInt8.ofNat n).toNat = n := by
  rw [UInt8.toNat_ofNat']; omega
theorem drop_text (s : ByteArray) (k : Nat) : (s.extract k s.size).data.toList = s.data.toList.drop k := by
  rw [ByteArray.data_extract, Array.toList_extract, List.extract_eq_take_drop, List.take_of_length_le]
  rw [List.length_drop]
  exact Nat.le_refl _
theorem drop_cons (s : ByteArray) (k : Nat) (h : k < s.size) : s.data.toList.drop k = s[k] :: s.data.toList.drop (k + 1) :=
  List.drop_eq_getElem_cons (l := s.data.toList) (i := k) h
theorem ne37 (x : UInt8) : ((x.toNat : Int) != 37) = !decide (x = 37) := by
  rw [Bool.eq_iff_iff]
  simp [UInt8.toNat_inj.symm, bne_iff_ne]
  omega

/-- What first answers: the byte that is told, and how many bytes tell it. -/
theorem first_any (s : ByteArray) (h0 : 0 < s.size) (hs : s.size ≤ maxLen) : ∃ (x : UInt8) (k : Nat), 1 ≤ k ∧ k ≤ s.size ∧ decode s.data.toList = x :: decode (s.extract k s.size).data.toList ∧
    ∀ w, Calls Try.prog 22 #[.string s] w fun e w' => e = .returned (.tuple #[.int .u8 (x.toNat : Int), .int .i64 (k : Int)]) ∧ ∃ n, w' = w.drewN n := by
  have e0 : s.data.toList = s[0] :: s.data.toList.drop 1 := by simpa using drop_cons s 0 h0
  have plain : told s.data.toList = none → decode s.data.toList = s[0] :: decode (s.extract 1 s.size).data.toList := by
    intro h
    rw [drop_text]
    rw [e0] at h
    rw [e0, decode_none h]
    simp
  by_cases h37 : s[0] = 37
  · have t37 : ((s[0].toNat : Int) != 37) = false := by rw [ne37, h37]; rfl
    by_cases h3 : 3 ≤ s.size
    · have e1 : s.data.toList = s[0] :: s[1] :: s[2] :: s.data.toList.drop 3 := by
        rw [← drop_cons s 2 (by omega), ← drop_cons s 1 (by omega)]; exact e0
      have b1 := hexI_le (s[1].toNat : Int)
      have b2 := hexI_le (s[2].toNat : Int)
      by_cases hb : hexB s[1] = true ∧ hexB s[2] = true
      · have ht : told s.data.toList = some (UInt8.ofNat (16 * hexN s[1] + hexN s[2])) := by rw [e1, told_cons, if_pos ⟨h37, hb⟩]
        have g1 : 0 ≤ Ascii.hexI (s[1].toNat : Int) := by simpa [hexB] using hb.1
        have g2 : 0 ≤ Ascii.hexI (s[2].toNat : Int) := by simpa [hexB] using hb.2
        refine ⟨UInt8.ofNat (16 * hexN s[1] + hexN s[2]), 3, by omega, h3, ?_, fun w => ?_⟩
        · rw [drop_text]
          have ht' := ht
          rw [e1] at ht'
          have := decode_some ht'
          rw [← e1] at this
          rw [this]
          simp
        · have := first_told s h3 hs t37 _ _ (Lib.hid rfl) (Lib.hid rfl) g1 g2 b1.2 b2.2 w
          rw [ofNat_toNat _ (by unfold hexN; omega)]
          have ev : ((16 * hexN s[1] + hexN s[2] : Nat) : Int) = 16 * Ascii.hexI (s[1].toNat : Int) + Ascii.hexI (s[2].toNat : Int) := by unfold hexN; omega
          rw [ev]
          exact this
      · have ht : told s.data.toList = none := by rw [e1, told_cons, if_neg (fun h => hb h.2)]
        refine ⟨s[0], 1, by omega, h0, plain ht, fun w => first_sign s h3 hs t37 _ _ (Lib.hid rfl) (Lib.hid rfl) ?_ w⟩
        by_cases g1 : Ascii.hexI (s[1].toNat : Int) < 0
        · exact .inl (by simpa using g1)
        · refine .inr ⟨by simpa using g1, ?_⟩
          have g2 : hexB s[1] = true := by simpa [hexB] using g1
          have g3 : ¬ hexB s[2] = true := fun h => hb ⟨g2, h⟩
          simpa [hexB] using g3
    · have ht : told s.data.toList = none := by
        have hl : s.data.toList.length < 3 := by show s.size < 3; omega
        unfold told
        split
        · simp_all
          omega
        · rfl
      exact ⟨s[0], 1, by omega, h0, plain ht, fun w => (first_plain s h0 hs (.inr ⟨t37, by omega⟩) w).mono fun e w' h => ⟨h.1, 0, by rw [← h.2]; rfl⟩⟩
  · have t37 : ((s[0].toNat : Int) != 37) = true := by rw [ne37]; simpa using h37
    have ht : told s.data.toList = none := by
      rw [e0]
      unfold told
      split
      · rename_i heq
        rw [if_neg]
        rintro ⟨h, _⟩
        simp at heq
        exact h37 (heq.1.trans h)
      · rfl
    exact ⟨s[0], 1, by omega, h0, plain ht, fun w => (first_plain s h0 hs (.inl t37) w).mono fun e w' h => ⟨h.1, 0, by rw [← h.2]; rfl⟩⟩

def restOf (v : Value) : Nat := match v with | .string r => r.size | _ => 0

set_option maxRecDepth 100000 in
set_option maxHeartbeats 4000000 in
theorem decode_any (s : ByteArray) (hs : s.size ≤ 1000000) (w : World) :
    Calls Try.prog 16 #[.string s] w fun e w' => e = .returned (.string ⟨(decode s.data.toList).toArray⟩) ∧ Below w.heap.size w w' := by
  obtain ⟨i0, hi, hz0, hz1, hz2⟩ := info_parts Try.infoByte
  go_enter Try.func16, Try.ntmps16
  go_wp2_with (at_make; refine wpList_make_own _ rfl _ _ 30 rfl w.heap.size 5 i0 (.int .u8 0) 1 Try.underlying30 hi hz0 hz1 .i64 .i64 _ s.size rfl rfl rfl (by rw [hz2]; omega) (by unfold maxLen; omega) (Nat.le_refl _) ?_; intro w1 hown0 hg0)
  have hB1 : Below w.heap.size w w1 := (Below.refl _ w).grown hg0 (Nat.le_refl _) (fun j e => by cases e)
  go_loopw [3, 4, 5, 6] (fun v r _ _ wr => ∃ (q : ByteArray) (l : List UInt8), r = .string q ∧ wr.ownsRow w.heap.size 5 1 v l.length (l.map Ascii.u8v) ∧ Hid (decode s.data.toList = l ++ decode q.data.toList) ∧ l.length + q.size ≤ s.size ∧ Below w.heap.size w wr) (fun _ r _ _ _ => restOf r)
  case atStart => exact ⟨s, [], rfl, hown0, Lib.hid rfl, by simp, hB1⟩
  case round =>
    obtain ⟨q, l, rfl, hrow, hdec, hlen, hB⟩ := hrel
    by_cases h0 : 0 < q.size
    · have t0 : q.toList.isEmpty = false := by
        rw [ByteArray.toList_eq, List.isEmpty_eq_false_iff]
        intro h
        have : q.data.toList.length = q.size := rfl
        rw [h] at this
        simp at this
        omega
      obtain ⟨x, k, k1, kq, hd, hcall⟩ := first_any q h0 (by unfold maxLen; omega)
      obtain ⟨r, hr⟩ : ∃ r, r = q.extract k q.size := ⟨_, rfl⟩
      have hrs : r.size < q.size := by rw [hr]; simp; omega
      have hnext := Lib.hid (show decode s.data.toList = (l ++ [x]) ++ decode r.data.toList by rw [hdec.out, hd, hr]; simp)
      have HR := Lib.hid hr
      have HD := Lib.hid hd
      clear hd hr
      go_wp2_with fail
      refine (hcall _).mono ?_
      rintro e w' ⟨rfl, n, rfl⟩
      have hrow2 : (wr.drewN n).ownsRow w.heap.size 5 1 u3 l.length (l.map Ascii.u8v) := hrow
      have hB2 : Below w.heap.size w (wr.drewN n) := ⟨hB.os, hB.tape, hB.output, hB.size, hB.block⟩
      generalize wr.drewN n = W2 at hrow2 hB2
      clear hrow hB hcall
      go_wp2_with (go_at_call 21; refine (put_any w.heap.size _ l ⟨W2.heap.size, 0, none⟩ 1 1 [x] _ (hrow2.alloc _) rfl (cell_one_new _ _ _) (by omega) (by have := hB2.size; simp; omega)).mono ?_; rintro e w3 ⟨v', rfl, hrow3, hB3⟩)
      go_roundw
      case rel => exact ⟨r, l ++ [x], by rw [HR.out], hrow3, hnext, by simp; omega, (hB2.alloc hB2.size _).trans hB3⟩
      case measure => simp only [restOf]; rw [← HR.out]; exact hrs
    · have hq : q.data.toList = [] := List.length_eq_zero_iff.1 (show q.data.toList.length = 0 by show q.size = 0; omega)
      have t0 : q.toList.isEmpty = true := by rw [ByteArray.toList_eq, hq]; rfl
      have hend := Lib.hid (show decode s.data.toList = l by rw [hdec.out, hq, decode_nil, List.append_nil])
      have hcv := Ascii.conv_owned hrow
      clear hq
      go_wp2
      go_ret
      exact ⟨by rw [hend.out]; rfl, hB⟩

end Go.Proofs.Ytpbcienekjnelaa.Pct
