/-
  Plain facts on sets, encoding and decoding.
-/
import Derived.Test.YtpbcienekjnelaaPEnc
namespace Go.Proofs.Ytpbcienekjnelaa.Pct
open Go.RowKit
set_option linter.unusedSimpArgs false
set_option linter.unusedVariables false

theorem all256 {p : UInt8 → Prop} (h : ∀ x : Fin 256, p (UInt8.ofNat x.val)) (x : UInt8) : p x := by
  have := h ⟨x.toNat, x.toNat_lt⟩
  rwa [show UInt8.ofNat x.toNat = x from UInt8.ofNat_toNat] at this

theorem inB_of (set : Int) (x : UInt8) (h0 : baseB x = false) (h1 : in1 x = false) (h2 : in2 x = false) (h3 : in3 x = false) (h4 : in4 x = false) : inB set x = false := by
  unfold inB
  split
  · exact h0
  · split
    · exact h1
    · split
      · exact h2
      · split
        · exact h3
        · split
          · exact h4
          · rfl
theorem free37 (set : Int) : inB set 37 = false := inB_of set 37 rfl rfl rfl rfl rfl
theorem hex_free256 : ∀ x : Fin 256, hexB (UInt8.ofNat x.val) = true → baseB (UInt8.ofNat x.val) = false ∧ in1 (UInt8.ofNat x.val) = false ∧ in2 (UInt8.ofNat x.val) = false ∧ in3 (UInt8.ofNat x.val) = false ∧ in4 (UInt8.ofNat x.val) = false := by decide +kernel
theorem hex_free (set : Int) (x : UInt8) (h : hexB x = true) : inB set x = false := by
  obtain ⟨h0, h1, h2, h3, h4⟩ := all256 (p := fun x => hexB x = true → baseB x = false ∧ in1 x = false ∧ in2 x = false ∧ in3 x = false ∧ in4 x = false) hex_free256 x h
  exact inB_of set x h0 h1 h2 h3 h4
theorem hexC_16 : ∀ n : Fin 16, hexB (hexC n.val) = true ∧ hexN (hexC n.val) = n.val := by decide +kernel
theorem hexC_ok (n : Nat) (h : n < 16) : hexB (hexC n) = true ∧ hexN (hexC n) = n := hexC_16 ⟨n, h⟩
theorem hexB37 : hexB 37 = false := by decide +kernel

theorem enc1_in {set : Int} {x : UInt8} (h : inB set x = true) : enc1 set x = [37, hexC (x.toNat / 16), hexC (x.toNat % 16)] := by unfold enc1; rw [h]; rfl
theorem enc1_out {set : Int} {x : UInt8} (h : inB set x = false) : enc1 set x = [x] := by unfold enc1; rw [h]; rfl
theorem encode_nil (set : Int) : encode set [] = [] := rfl
theorem encode_cons (set : Int) (a : UInt8) (r : List UInt8) : encode set (a :: r) = enc1 set a ++ encode set r := by unfold encode; simp
theorem encode_append (set : Int) (a b : List UInt8) : encode set (a ++ b) = encode set a ++ encode set b := by unfold encode; simp
theorem div16 (x : UInt8) : x.toNat / 16 < 16 ∧ x.toNat % 16 < 16 := by have := x.toNat_lt; omega

theorem ready_cons (set : Int) (a : UInt8) (r : List UInt8) : readyB set (a :: r) = (!inB set a && readyB set r) := rfl
theorem ready_append (set : Int) (a b : List UInt8) : readyB set (a ++ b) = (readyB set a && readyB set b) := by unfold readyB; rw [List.all_append]
theorem ready_enc1 (set : Int) (x : UInt8) : readyB set (enc1 set x) = true := by
  cases h : inB set x
  · rw [enc1_out h, ready_cons, h]; rfl
  · rw [enc1_in h, ready_cons, ready_cons, ready_cons, free37, hex_free set _ (hexC_ok _ (div16 x).1).1, hex_free set _ (hexC_ok _ (div16 x).2).1]; rfl
theorem ready_encode (set : Int) (l : List UInt8) : readyB set (encode set l) = true := by
  induction l with
  | nil => rfl
  | cons a r ih => rw [encode_cons, ready_append, ready_enc1, ih]; rfl
theorem encode_ready (set : Int) (l : List UInt8) (h : readyB set l = true) : encode set l = l := by
  induction l with
  | nil => rfl
  | cons a r ih =>
    rw [ready_cons] at h
    have h1 : inB set a = false := by cases e : inB set a <;> simp_all
    rw [encode_cons, enc1_out h1, ih (by simp_all)]
    rfl
theorem enc1_ge (set : Int) (x : UInt8) : 1 ≤ (enc1 set x).length := by cases h : inB set x <;> simp [enc1_in, enc1_out, h]
theorem encode_ge (set : Int) (l : List UInt8) : l.length ≤ (encode set l).length := by
  induction l with
  | nil => simp
  | cons a r ih => rw [encode_cons, List.length_append, List.length_cons]; have := enc1_ge set a; omega
theorem encode_gt (set : Int) (l : List UInt8) (h : readyB set l = false) : l.length < (encode set l).length := by
  induction l with
  | nil => cases h
  | cons a r ih =>
    rw [encode_cons, List.length_append, List.length_cons]
    rw [ready_cons] at h
    cases e : inB set a
    · have := ih (by simp_all)
      rw [enc1_out e]; simp; omega
    · have := encode_ge set r
      rw [enc1_in e]; simp; omega
theorem ready_iff (set : Int) (l : List UInt8) : readyB set l = (encode set l == l) := by
  cases h : readyB set l
  · have := encode_gt set l h
    symm
    rw [beq_eq_false_iff_ne]
    intro e
    rw [e] at this
    omega
  · rw [encode_ready set l h]; simp

theorem told_other {a : UInt8} (h : a ≠ 37) (r : List UInt8) : told (a :: r) = none := by
  match r with
  | [] => rfl
  | [_] => rfl
  | b :: c :: t => rw [told_cons, if_neg (fun h' => h h'.1)]
theorem told_enc (x : UInt8) (r : List UInt8) : told (37 :: hexC (x.toNat / 16) :: hexC (x.toNat % 16) :: r) = some x := by
  obtain ⟨h1, h2⟩ := hexC_ok _ (div16 x).1
  obtain ⟨h3, h4⟩ := hexC_ok _ (div16 x).2
  rw [told_cons, if_pos ⟨rfl, h1, h3⟩, h2, h4, show 16 * (x.toNat / 16) + x.toNat % 16 = x.toNat by omega]
  exact congrArg some UInt8.ofNat_toNat
theorem decode_other {a : UInt8} (h : a ≠ 37) (r : List UInt8) : decode (a :: r) = a :: decode r := decode_none (told_other h r)
theorem decode_enc (x : UInt8) (r : List UInt8) : decode (37 :: hexC (x.toNat / 16) :: hexC (x.toNat % 16) :: r) = x :: decode r := by
  rw [decode_some (told_enc x r)]; rfl
theorem in_ne37 {set : Int} {x : UInt8} (h : inB set x = true) : x ≠ 37 := by
  intro e; subst e; rw [free37] at h; cases h

/-- The first byte of what is encoded, if it is a digit to the base of 16, is the text's own. -/
theorem encode_first {set : Int} {r : List UInt8} {b : UInt8} {t : List UInt8} (h : encode set r = b :: t) (hb : hexB b = true) : ∃ r', r = b :: r' ∧ encode set r' = t := by
  cases r with
  | nil => cases h
  | cons a r =>
    rw [encode_cons] at h
    cases e : inB set a
    · rw [enc1_out e] at h
      simp at h
      exact ⟨r, by rw [h.1], h.2⟩
    · rw [enc1_in e] at h
      simp at h
      rw [← h.1, hexB37] at hb
      cases hb

theorem decode_encode (set : Int) : ∀ (n : Nat) (l : List UInt8), l.length ≤ n → decode (encode set l) = decode l
  | 0, l, h => by
    obtain rfl : l = [] := List.length_eq_zero_iff.1 (by omega)
    rfl
  | n + 1, [], _ => rfl
  | n + 1, a :: r, h => by
    have hr : r.length ≤ n := by simpa using h
    cases e : inB set a
    · rw [encode_cons, enc1_out e]
      show decode (a :: encode set r) = _
      by_cases h37 : a = 37
      · cases ht : told (a :: r) with
        | some x =>
          match r, ht with
          | b :: c :: t, ht =>
            rw [told_cons] at ht
            split at ht
            · rename_i hc
              have e1 : encode set (b :: c :: t) = b :: c :: encode set t := by
                rw [encode_cons, encode_cons, enc1_out (hex_free set b hc.2.1), enc1_out (hex_free set c hc.2.2)]; rfl
              have t1 : told (a :: b :: c :: encode set t) = some x := by rw [told_cons, if_pos hc]; exact ht
              have t2 : told (a :: b :: c :: t) = some x := by rw [told_cons, if_pos hc]; exact ht
              rw [e1, decode_some t1, decode_some t2]
              show x :: decode (encode set t) = x :: decode t
              rw [decode_encode set n t (by simp at hr; omega)]
            · cases ht
        | none =>
          have t1 : told (a :: encode set r) = none := by
            cases hq : told (a :: encode set r) with
            | none => rfl
            | some x =>
              exfalso
              match hE : encode set r, hq with
              | b :: c :: t, hq =>
                rw [told_cons] at hq
                split at hq
                · rename_i hc
                  obtain ⟨r1, rfl, h1⟩ := encode_first hE hc.2.1
                  obtain ⟨r2, rfl, h2⟩ := encode_first h1 hc.2.2
                  rw [told_cons, if_pos hc] at ht
                  cases ht
                · cases hq
          rw [decode_none t1, decode_none ht, decode_encode set n r hr]
      · rw [decode_other h37, decode_other h37, decode_encode set n r hr]
    · rw [encode_cons, enc1_in e, decode_other (in_ne37 e)]
      show decode (37 :: hexC (a.toNat / 16) :: hexC (a.toNat % 16) :: encode set r) = _
      rw [decode_enc, decode_encode set n r hr]

theorem decode_plain (l : List UInt8) (h : l.all (fun c => c != 37) = true) : decode l = l := by
  induction l with
  | nil => exact decode_nil
  | cons a r ih =>
    simp at h
    rw [decode_other h.1, ih (by simpa using h.2)]

theorem decode_len : ∀ (n : Nat) (l : List UInt8), l.length ≤ n → (decode l).length ≤ l.length
  | 0, l, h => by
    obtain rfl : l = [] := List.length_eq_zero_iff.1 (by omega)
    rw [decode_nil]; exact Nat.le_refl _
  | n + 1, [], _ => by rw [decode_nil]; exact Nat.le_refl _
  | n + 1, a :: r, h => by
    have hr : r.length ≤ n := by simpa using h
    cases ht : told (a :: r) with
    | some x =>
      have := decode_len n (r.drop 2) (by simp; omega)
      rw [decode_some ht]
      simp at this ⊢
      omega
    | none =>
      have := decode_len n r hr
      rw [decode_none ht]
      simp at this ⊢
      omega

/-- Does a text end by a percent sign, or by one and another byte? -/
def endsB : List UInt8 → Bool
  | [] => false
  | [a] => a == 37
  | [a, b] => a == 37 || b == 37
  | _ :: b :: c :: r => endsB (b :: c :: r)

theorem ends_tail (a : UInt8) (r : List UInt8) (h : endsB (a :: r) = false) : endsB r = false := by
  match r, h with
  | [], _ => rfl
  | [b], h => simp [endsB] at h ⊢; exact h.2
  | b :: c :: t, h => exact h
theorem decode_append : ∀ (n : Nat) (a b : List UInt8), a.length ≤ n → endsB a = false → decode (a ++ b) = decode a ++ decode b
  | 0, a, b, h, _ => by
    obtain rfl : a = [] := List.length_eq_zero_iff.1 (by omega)
    rw [decode_nil]; rfl
  | n + 1, [], b, _, _ => by rw [decode_nil]; rfl
  | n + 1, x :: r, b, h, he => by
    have hr : r.length ≤ n := by simpa using h
    by_cases h37 : x = 37
    · match r, he with
      | [], he => subst h37; cases he
      | [p], he => subst h37; simp [endsB] at he
      | p :: q :: t, he =>
        cases ht : told (x :: p :: q :: t) with
        | some y =>
          have ht' : told (x :: p :: q :: (t ++ b)) = some y := by rw [told_cons] at ht ⊢; exact ht
          have h2 := ends_tail q t (ends_tail p _ (ends_tail x _ he))
          have := decode_append n t b (by simp at hr; omega) h2
          rw [decode_some ht]
          show decode (x :: p :: q :: (t ++ b)) = _
          rw [decode_some ht']
          show y :: decode (t ++ b) = y :: (decode t ++ decode b)
          rw [this]
        | none =>
          have ht' : told (x :: p :: q :: (t ++ b)) = none := by rw [told_cons] at ht ⊢; exact ht
          rw [decode_none ht]
          show decode (x :: p :: q :: (t ++ b)) = _
          rw [decode_none ht']
          show x :: decode ((p :: q :: t) ++ b) = x :: (decode (p :: q :: t) ++ decode b)
          rw [decode_append n (p :: q :: t) b hr (ends_tail x _ he)]
    · rw [decode_other h37]
      show decode (x :: (r ++ b)) = x :: (decode r ++ decode b)
      rw [decode_other h37, decode_append n r b hr (ends_tail x r he)]

end Go.Proofs.Ytpbcienekjnelaa.Pct
