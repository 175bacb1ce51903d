/-
  The document's byteAt and Parse.
-/
import Derived.Test.YtknlahgcpnhaiaaDoorFRef
namespace Go.Proofs.YtknlahgcpnhaiaaDoor.Four
open Go.RowKit
set_option linter.unusedSimpArgs false
set_option linter.unusedVariables false

/-- What stands ahead of the first dot, and behind it. -/
def upto : List UInt8 → List UInt8
  | [] => []
  | c :: r => if c = 46 then [] else c :: upto r
def rest : List UInt8 → Option (List UInt8)
  | [] => none
  | c :: r => if c = 46 then some r else rest r
theorem upto_none (r : List UInt8) (h : (46 : UInt8) ∉ r) : upto r = r ∧ rest r = none := by
  induction r with
  | nil => exact ⟨rfl, rfl⟩
  | cons c r ih =>
    rw [List.mem_cons, not_or] at h
    obtain ⟨h1, h2⟩ := ih h.2
    unfold upto rest
    rw [if_neg (Ne.symm h.1), if_neg (Ne.symm h.1), h1, h2]
    exact ⟨rfl, rfl⟩
theorem upto_dot (a q : List UInt8) (h : (46 : UInt8) ∉ a) : upto (a ++ 46 :: q) = a ∧ rest (a ++ 46 :: q) = some q := by
  induction a with
  | nil => exact ⟨rfl, rfl⟩
  | cons c r ih =>
    rw [List.mem_cons, not_or] at h
    obtain ⟨h1, h2⟩ := ih h.2
    rw [List.cons_append]
    unfold upto rest
    rw [if_neg (Ne.symm h.1), if_neg (Ne.symm h.1), h1, h2]
    exact ⟨rfl, rfl⟩
/-- The number that the next k parts tell, behind n. -/
def ref4 : Nat → Option (List UInt8) → Nat → Option Nat
  | 0, _, n => some n
  | _ + 1, none, _ => none
  | k + 1, some r, n => if Deci.readB (upto r) 255 then ref4 k (rest r) (256 * n + Deci.valN (upto r)) else none
theorem read_show (n : Nat) (h : n ≤ 255) : Deci.readB (Deci.showN n) 255 = true := by
  unfold Deci.readB
  rw [Deci.showN_plain, Deci.valN_showN]
  simp
  omega
theorem ref4_show (n : Nat) (h : n ≤ 4294967295) : ref4 4 (some (show4 n)) 0 = some n := by
  unfold show4 join4
  have e0 := upto_dot (Deci.showN (n / 16777216)) (Deci.showN (n / 65536 % 256) ++ 46 :: (Deci.showN (n / 256 % 256) ++ 46 :: Deci.showN (n % 256))) (show_no_dot _)
  have e1 := upto_dot (Deci.showN (n / 65536 % 256)) (Deci.showN (n / 256 % 256) ++ 46 :: Deci.showN (n % 256)) (show_no_dot _)
  have e2 := upto_dot (Deci.showN (n / 256 % 256)) (Deci.showN (n % 256)) (show_no_dot _)
  have e3 := upto_none (Deci.showN (n % 256)) (show_no_dot _)
  unfold ref4
  rw [e0.1, e0.2, if_pos (read_show _ (by omega)), Deci.valN_showN]
  unfold ref4
  rw [e1.1, e1.2, if_pos (read_show _ (by omega)), Deci.valN_showN]
  unfold ref4
  rw [e2.1, e2.2, if_pos (read_show _ (by omega)), Deci.valN_showN]
  unfold ref4
  rw [e3.1, e3.2, if_pos (read_show _ (by omega)), Deci.valN_showN]
  unfold ref4
  congr 1
  omega
theorem ref4_none (l : List UInt8) (h : ref4 4 (some l) 0 = none) : parB l = false := by
  cases e : parB l
  · rfl
  · obtain ⟨n, hn, rfl, _⟩ := parB_some l e
    rw [ref4_show n hn] at h
    cases h
theorem ref4_other (l : List UInt8) (n : Nat) (h : ref4 4 (some l) 0 = some n) (hne : show4 n ≠ l) : parB l = false := by
  cases e : parB l
  · rfl
  · obtain ⟨m, hm, rfl, _⟩ := parB_some l e
    rw [ref4_show m hm] at h
    cases h
    exact absurd rfl hne

/-- Where the next part of s, from place i on, ends. -/
def endOf (s : ByteArray) (i : Nat) : Nat := i + (upto (s.data.toList.drop i)).length
def partOf (s : ByteArray) (i : Nat) : List UInt8 := upto (s.data.toList.drop i)
def tellOf (s : ByteArray) (i : Nat) : Int := if Deci.readB (partOf s i) 255 then (Deci.valN (partOf s i) : Int) else -1
theorem upto_pre (r : List UInt8) : ∃ q, r = upto r ++ q ∧ (q = [] ∨ ∃ q', q = 46 :: q') := by
  rcases first_dot r with h | ⟨a, q, rfl, h⟩
  · exact ⟨[], by rw [(upto_none r h).1]; simp, .inl rfl⟩
  · exact ⟨46 :: q, by rw [(upto_dot a q h).1], .inr ⟨q, rfl⟩⟩
theorem upto_no (r : List UInt8) : (46 : UInt8) ∉ upto r := by
  rcases first_dot r with h | ⟨a, q, rfl, h⟩
  · rw [(upto_none r h).1]; exact h
  · rw [(upto_dot a q h).1]; exact h
theorem end_le (s : ByteArray) (i : Nat) (hi : i ≤ s.size) : endOf s i ≤ s.size := by
  unfold endOf
  obtain ⟨q, h, _⟩ := upto_pre (s.data.toList.drop i)
  have h1 := congrArg List.length h
  rw [List.length_drop, List.length_append] at h1
  have h2 : s.data.toList.length = s.size := rfl
  omega
theorem byte_get? (s : ByteArray) (j : Nat) (h : j < s.size) : s.data.toList[j]? = some s[j] := by
  rw [List.getElem?_eq_getElem (show j < s.data.toList.length from h)]
  rfl
theorem at_no (s : ByteArray) (i j : Nat) (hij : i ≤ j) (hj : j < endOf s i) (hs : j < s.size) : s[j] ≠ 46 := by
  intro e
  obtain ⟨q, h, _⟩ := upto_pre (s.data.toList.drop i)
  have h1 : (s.data.toList.drop i)[j - i]? = some s[j] := by rw [List.getElem?_drop, show i + (j - i) = j by omega, byte_get? s j hs]
  rw [h, List.getElem?_append_left (by unfold endOf at hj; omega)] at h1
  exact upto_no _ (by rw [← e]; exact List.mem_of_getElem? h1)
theorem at_end (s : ByteArray) (i : Nat) (hi : i ≤ s.size) (hs : endOf s i < s.size) : s[endOf s i] = 46 := by
  obtain ⟨q, h, hq⟩ := upto_pre (s.data.toList.drop i)
  have h1 : (s.data.toList.drop i)[endOf s i - i]? = some s[endOf s i] := by rw [List.getElem?_drop, show i + (endOf s i - i) = endOf s i by unfold endOf; omega, byte_get? s _ hs]
  rw [h, List.getElem?_append_right (by unfold endOf; omega), show endOf s i - i - (upto (s.data.toList.drop i)).length = 0 by unfold endOf; omega] at h1
  rcases hq with rfl | ⟨q', rfl⟩
  · cases h1
  · simp at h1
    exact h1.symm
theorem part_at (s : ByteArray) (i : Nat) : (s.extract i (endOf s i)).data.toList = partOf s i := by
  rw [Lib.extract_data]
  obtain ⟨q, h, hq⟩ := upto_pre (s.data.toList.drop i)
  unfold endOf partOf
  rw [Nat.add_sub_cancel_left]
  conv => lhs; arg 2; rw [h]
  rw [List.take_left' rfl]
theorem refRead_at (p : ByteArray) (hs : p.size ≤ 1000000) (x : Int) (b : Bool) (hx : Deci.readI p.data.toList 255 = x) (hb : Deci.readB p.data.toList 255 = b) (w : World) :
    Calls Tryd.prog 35 #[.string p, .int .i64 255] w fun e W' => e = .returned (.tuple #[.int .i64 x, .bool b]) ∧ Below w.heap.size w W' := by
  subst hx; subst hb
  exact Deci.refRead_calls p (by unfold maxLen; omega) 255 (by omega) w

set_option maxRecDepth 100000 in
set_option maxHeartbeats 1000000 in
theorem refByteAt_at (s : ByteArray) (hs : s.size ≤ 1000000) (i : Nat) (hi : i ≤ s.size) (en : Nat) (hen : endOf s i = en) (v : Int) (hv : tellOf s i = v) (w : World) :
    Calls Tryd.prog 22 #[.string s, .int .i64 i] w fun e W' => e = .returned (.tuple #[.int .i64 v, .int .i64 en]) ∧ Below w.heap.size w W' := by
  have he := end_le s i hi
  have hlo : i ≤ en := by rw [← hen]; unfold endOf; omega
  have HNo := Lib.hid (fun j (h1 : i ≤ j) (h2 : j < en) (h3 : j < s.size) => at_no s i j h1 (by omega) h3)
  have HEnd := Lib.hid (show ∀ h : en < s.size, s[en] = 46 by subst hen; exact fun h => at_end s i hi h)
  have hp := part_at s i
  rw [hen] at he hp
  have HV := Lib.hid hv
  have HP := Lib.hid hp
  clear hen hv hp
  go_enter Tryd.func22, Tryd.ntmps22
  go_wp2
  go_loop [6] (fun j => ∃ k : Nat, i ≤ k ∧ k ≤ en ∧ j = .int .i64 k) (fun j => s.size - (intOf j).toNat)
  case atStart => exact ⟨i, Nat.le_refl _, hlo, rfl⟩
  case round =>
    obtain ⟨k, hik, hk, rfl⟩ := hrel
    by_cases hlt : k < en
    · have hks : k < s.size := by omega
      have t1 : (k : Int) < s.size := by omega
      have hd := HNo.out k hik hlt hks
      have b : ((s[k].toNat : Int) == 46) = false := beq_false_of_ne (fun e => hd (UInt8.toNat_inj.1 (by have : (46 : UInt8).toNat = 46 := rfl; omega)))
      clear hd
      go_wp2
      go_round
      case rel => exact ⟨k + 1, by omega, by omega, by go_num⟩
      case measure => simp [intOf]; omega
    · obtain rfl : k = en := by omega
      have hend : decide (k < s.size) = false ∨ ∃ h : k < s.size, ((s[k].toNat : Int) == 46) = true := by
        by_cases h : k < s.size
        · exact .inr ⟨h, by rw [HEnd.out h]; rfl⟩
        · exact .inl (decide_eq_false (by omega))
      cases hb : Deci.readB (partOf s i) 255
      · have hr := refRead_at (s.extract i k) (by simp; omega) 0 false (by rw [HP.out]; unfold Deci.readI; rw [hb]; rfl) (by rw [HP.out]; exact hb) w
        have hv := Lib.hid (show v = -1 by rw [← HV.out]; unfold tellOf; rw [hb]; rfl)
        clear hb
        rcases hend with b | ⟨hks, b⟩
        all_goals
          go_wp2_with (go_at_call 35; refine hr.mono ?_; rintro e w2 ⟨rfl, hB2⟩)
          go_ret2
          refine ⟨?_, hB2⟩
          rw [hv.out]
          rfl
      · have hr := refRead_at (s.extract i k) (by simp; omega) v true (by rw [HP.out, ← HV.out]; unfold Deci.readI tellOf; rw [if_pos hb, if_pos hb]) (by rw [HP.out]; exact hb) w
        clear hb
        rcases hend with b | ⟨hks, b⟩
        all_goals
          go_wp2_with (go_at_call 35; refine hr.mono ?_; rintro e w2 ⟨rfl, hB2⟩)
          go_ret2
          exact ⟨rfl, hB2⟩

/-- What stands from place i on; none, if i lies behind the end. -/
def restAt (s : ByteArray) (i : Nat) : Option (List UInt8) := if i ≤ s.size then some (s.data.toList.drop i) else none
theorem rest_at (s : ByteArray) (i : Nat) (hi : i ≤ s.size) : rest (s.data.toList.drop i) = restAt s (endOf s i + 1) := by
  have hl : s.data.toList.length = s.size := rfl
  unfold restAt endOf
  rcases first_dot (s.data.toList.drop i) with h | ⟨a, q, e, h⟩
  · rw [(upto_none _ h).2, (upto_none _ h).1, if_neg (by rw [List.length_drop]; omega)]
  · have h1 := upto_dot a q h
    have h2 := congrArg List.length e
    rw [List.length_drop, List.length_append, List.length_cons] at h2
    rw [e, h1.1, h1.2, if_pos (by omega)]
    congr 1
    have h3 : s.data.toList.drop (i + a.length + 1) = (s.data.toList.drop i).drop (a.length + 1) := by rw [List.drop_drop]; congr 1
    rw [h3, e, List.drop_append, List.drop_eq_nil_of_le (by omega), show a.length + 1 - a.length = 1 by omega]
    rfl
theorem ref4_step (s : ByteArray) (i : Nat) (hi : i ≤ s.size) (k n : Nat) (h : Deci.readB (partOf s i) 255 = true) : ref4 (k + 1) (restAt s i) n = ref4 k (restAt s (endOf s i + 1)) (256 * n + Deci.valN (partOf s i)) := by
  rw [← rest_at s i hi]
  conv => lhs; unfold restAt
  rw [if_pos hi]
  conv => lhs; unfold ref4
  unfold partOf at h ⊢
  rw [if_pos h]
theorem ref4_stop (s : ByteArray) (i : Nat) (hi : i ≤ s.size) (k n : Nat) (h : Deci.readB (partOf s i) 255 = false) : ref4 (k + 1) (restAt s i) n = none := by
  unfold restAt
  rw [if_pos hi]
  unfold ref4
  unfold partOf at h
  rw [h]
  rfl
theorem ref4_past (s : ByteArray) (i : Nat) (hi : s.size < i) (k n : Nat) : ref4 (k + 1) (restAt s i) n = none := by
  unfold restAt
  rw [if_neg (by omega)]
  rfl

set_option maxRecDepth 100000 in
set_option maxHeartbeats 2000000 in
theorem refParse_at (s : ByteArray) (hs : s.size ≤ 1000000) (x : Int) (b : Bool) (hx : parI s.data.toList = x) (hb : parB s.data.toList = b) (w : World) :
    Calls Tryd.prog 10 #[.string s] w fun e W' => e = .returned (.tuple #[.int .i64 x, .bool b]) ∧ Below w.heap.size w W' := by
  have HX := Lib.hid hx
  have HB := Lib.hid hb
  clear hx hb
  go_enter Tryd.func10, Tryd.ntmps10
  go_wp2
  go_loopw [4, 5, 6, 7, 8] (fun n i k _ _ wr => ∃ a j t : Nat, t ≤ 4 ∧ k = .int .i64 t ∧ n = .int .i64 a ∧ i = .int .i64 j ∧ j ≤ 1000001 ∧ Hid (a < 256 ^ t ∧ ref4 4 (restAt s 0) 0 = ref4 (4 - t) (restAt s j) a) ∧ Below w.heap.size w wr) (fun _ _ k _ _ _ => 4 - (intOf k).toNat)
  case atStart => exact ⟨0, 0, 0, by omega, rfl, rfl, rfl, by omega, Lib.hid ⟨by decide, rfl⟩, Below.refl _ _⟩
  case round =>
    obtain ⟨a, j, t, ht, rfl, rfl, rfl, hj, HA, hw⟩ := hrel
    have h0 := Lib.hid (show restAt s 0 = some s.data.toList from rfl)
    by_cases hlt : t < 4
    · have t1 : (t : Int) < 4 := by omega
      have ha24 : a ≤ 16777215 := by
        have h1 := HA.out.1
        have h2 : 256 ^ t ≤ 256 ^ 3 := Nat.pow_le_pow_right (by omega) (by omega)
        omega
      have hstep := Lib.hid (show 4 - t = (4 - (t + 1)) + 1 by omega)
      by_cases hjs : s.size < j
      · have hno := Lib.hid (show parB s.data.toList = false from ref4_none _ (by rw [← h0.out, HA.out.2, hstep.out]; exact ref4_past s j hjs _ _))
        have b1 : decide (s.size < j) = true := decide_eq_true hjs
        go_wp2
        go_ret2
        refine ⟨?_, hw⟩
        rw [← HX.out, ← HB.out, parI_none _ hno.out, hno.out]
        rfl
      · have b1 : decide (s.size < j) = false := decide_eq_false hjs
        obtain ⟨en, hen⟩ : ∃ en, endOf s j = en := ⟨_, rfl⟩
        have hle := end_le s j (by omega)
        rw [hen] at hle
        cases hr : Deci.readB (partOf s j) 255
        · have hno := Lib.hid (show parB s.data.toList = false from ref4_none _ (by rw [← h0.out, HA.out.2, hstep.out]; exact ref4_stop s j (by omega) _ _ hr))
          have hc := refByteAt_at s hs j (by omega) en hen (-1) (by unfold tellOf; rw [hr]; rfl) wr
          clear hr hen
          go_wp2_with (go_at_call 22; refine hc.mono ?_; rintro e w2 ⟨rfl, hB2⟩)
          go_ret2
          refine ⟨?_, hw.trans (hB2.mono hw.size)⟩
          rw [← HX.out, ← HB.out, parI_none _ hno.out, hno.out]
          rfl
        · obtain ⟨v, hv⟩ : ∃ v, Deci.valN (partOf s j) = v := ⟨_, rfl⟩
          have hv255 : v ≤ 255 := by
            rw [← hv]
            unfold Deci.readB at hr
            rw [Bool.and_eq_true, decide_eq_true_iff] at hr
            omega
          have hc := refByteAt_at s hs j (by omega) en hen (v : Int) (by unfold tellOf; rw [if_pos hr, hv]) wr
          have hnext := Lib.hid (show ref4 4 (restAt s 0) 0 = ref4 (4 - (t + 1)) (restAt s (en + 1)) (256 * a + v) by rw [HA.out.2, hstep.out, ref4_step s j (by omega) _ _ hr, hen, hv])
          clear hr hen hv
          go_wp2_with (go_at_call 22; refine hc.mono ?_; rintro e w2 ⟨rfl, hB2⟩)
          go_roundw
          case rel =>
            refine ⟨256 * a + v, en + 1, t + 1, by omega, by go_num, by go_num, by go_num, by omega, Lib.hid ⟨?_, hnext.out⟩, hw.trans (hB2.mono hw.size)⟩
            have h1 := HA.out.1
            rw [Nat.pow_succ]
            omega
          case measure => simp [intOf]; omega
    · obtain rfl : t = 4 := by omega
      have ha : a ≤ 4294967295 := by have h1 := HA.out.1; omega
      have hR := HA.out.2
      rw [h0.out] at hR
      have hR' : ref4 4 (some s.data.toList) 0 = some a := hR
      obtain ⟨tx, htx⟩ : ∃ tx : ByteArray, (⟨(showF (a : Int)).toArray⟩ : ByteArray) = tx := ⟨_, rfl⟩
      have hsf : showF (a : Int) = show4 a := by
        unfold showF
        rw [if_pos (by unfold fitsB; simp; omega)]
        congr 1
      have hsh := refShowF_at a tx htx wr
      rw [hsf] at htx
      cases he : (tx.toList == s.toList)
      · have hno := Lib.hid (show parB s.data.toList = false from ref4_other _ a hR' (fun e => by
          rw [← htx, ByteArray.toList_eq, ByteArray.toList_eq] at he
          have : (show4 a == s.data.toList) = false := he
          rw [e] at this
          simp at this))
        clear hR hR' htx hsf HA
        have b1 : (tx.toList != s.toList) = true := by unfold bne; rw [he]; rfl
        go_wp2_with (go_at_call 14; refine hsh.mono ?_; rintro e w2 ⟨rfl, hB2⟩)
        go_ret2
        refine ⟨?_, hw.trans (hB2.mono hw.size)⟩
        rw [← HX.out, ← HB.out, parI_none _ hno.out, hno.out]
        rfl
      · have hyes : s.data.toList = show4 a := by
          rw [← htx, ByteArray.toList_eq, ByteArray.toList_eq] at he
          have : (show4 a == s.data.toList) = true := he
          exact (beq_iff_eq.1 this).symm
        have hpB := Lib.hid (show parB s.data.toList = true by rw [hyes]; exact parB_show a ha)
        have hpI := Lib.hid (show parI s.data.toList = (a : Int) by rw [hyes]; exact parI_show a ha)
        clear hR hR' htx hsf HA hyes
        have b1 : (tx.toList != s.toList) = false := by unfold bne; rw [he]; rfl
        go_wp2_with (go_at_call 14; refine hsh.mono ?_; rintro e w2 ⟨rfl, hB2⟩)
        go_ret2
        refine ⟨?_, hw.trans (hB2.mono hw.size)⟩
        rw [← HX.out, ← HB.out, hpI.out, hpB.out]
        rfl
end Go.Proofs.YtknlahgcpnhaiaaDoor.Four
