/-
  The document's May, gap and text of layer 6.
-/
import Derived.Test.YtgfhjigalefkmaaDoorSZeros
namespace Go.Proofs.YtgfhjigalefkmaaDoor.Six
open Go.RowKit
set_option linter.unusedSimpArgs false
set_option linter.unusedVariables false
set_option maxRecDepth 100000 in
set_option maxHeartbeats 2000000 in
theorem refMay_any (p : List Int) (h8 : p.length = 8) (b : Bool) (hb : mayP p = b) (w : World) : Calls Tryd.prog 14 #[.agg (arr p)] w fun e w' => e = .returned (.bool b) ∧ Below w.heap.size w w' := by
  have HB0 := Lib.hid (show Below w.heap.size w (w.alloc (.cells (arr p) 22)) from (Below.refl _ w).alloc (Nat.le_refl _) _)
  have HR0 := Lib.hid (RowAt.new w p)
  have H8 := Lib.hid h8
  have HB := Lib.hid hb
  clear h8 hb
  go_enter Tryd.func14, Tryd.ntmps14
  go_wp2
  generalize w.alloc (.cells (arr p) 22) = W at HB0 HR0 ⊢
  go_loopw [3] (fun i wr => ∃ k : Nat, k ≤ 8 ∧ i = .int .i64 k ∧ Hid (mayP (p.take k) = true) ∧ wr = W) (fun i _ => 8 - (intOf i).toNat)
  case atStart => exact ⟨0, Nat.zero_le _, rfl, Lib.hid rfl, rfl⟩
  case round =>
    obtain ⟨k, hk, rfl, HA, rfl⟩ := hrel
    by_cases hlt : k < 8
    · have t1 : (k : Int) < 8 := by omega
      have hkp : k < p.length := by have := H8.out; omega
      have hc := HR0.out.cell k hkp
      have hmem : p[k] ∈ p := List.getElem_mem _
      have hts : p.take (k + 1) = p.take k ++ [p[k]] := List.take_succ_eq_append_getElem hkp
      obtain ⟨z, hz⟩ : ∃ z, p[k] = z := ⟨_, rfl⟩
      rw [hz] at hc hmem hts
      by_cases hin : 0 ≤ z ∧ z ≤ 65535
      · have e0 : decide (z < 0) = false := decide_eq_false (by omega)
        have e1 : decide (65535 < z) = false := decide_eq_false (by omega)
        have HN := Lib.hid (show mayP (p.take (k + 1)) = true by
          rw [hts]
          have h := HA.out
          unfold mayP at h ⊢
          rw [List.all_append, h]
          simp [hin.1, hin.2])
        clear hin hz hmem hts hkp HA
        go_wp2
        go_roundw
        case rel => exact ⟨k + 1, by omega, by go_num, HN, by first | trivial | rfl⟩
        case measure => simp [intOf]; omega
      · have HF := Lib.hid (show b = false by
          rw [← HB.out]
          cases e : mayP p
          · rfl
          · exact absurd ((may_iff p).1 e z hmem) hin)
        have hway : decide (z < 0) = true ∨ (decide (z < 0) = false ∧ decide (65535 < z) = true) := by
          by_cases h : z < 0
          · exact .inl (decide_eq_true h)
          · exact .inr ⟨decide_eq_false h, decide_eq_true (by omega)⟩
        clear hin hz hmem hts hkp HA
        rcases hway with e0 | ⟨e0, e1⟩
        all_goals
          go_wp2
          go_ret
          exact ⟨congrArg (fun x => Ending.returned (Value.bool x)) HF.out.symm, HB0.out⟩
    · obtain rfl : k = 8 := by omega
      have HF := Lib.hid (show true = b by
        rw [← HB.out]
        have h := HA.out
        rw [List.take_of_length_le (by have := H8.out; omega)] at h
        exact h.symm)
      clear HA
      go_wp2
      go_ret
      exact ⟨congrArg (fun x => Ending.returned (Value.bool x)) HF.out, HB0.out⟩
/-! ### gap -/
def idx2 (l : List UInt8) : Int := Lib.index l [58, 58]
theorem idx2_cons (c : UInt8) (r : List UInt8) : idx2 (c :: r) = if c = 58 ∧ r.head? = some 58 then 0 else if idx2 r = -1 then -1 else idx2 r + 1 := by
  unfold idx2
  conv => lhs; unfold Lib.index
  have hp : List.isPrefixOf [58, 58] (c :: r) = decide (c = 58 ∧ r.head? = some 58) := by
    cases r with
    | nil => simp [List.isPrefixOf]
    | cons d r =>
      rw [Bool.eq_iff_iff]
      simp [List.isPrefixOf]
      constructor
      · rintro ⟨rfl, rfl⟩; exact ⟨rfl, rfl⟩
      · rintro ⟨rfl, rfl⟩; exact ⟨rfl, rfl⟩
  rw [hp]
  by_cases h : c = 58 ∧ r.head? = some 58
  · rw [if_pos h, if_pos (decide_eq_true h)]
  · rw [if_neg h, if_neg (by rw [decide_eq_false h]; decide)]
    by_cases h2 : Lib.index r [58, 58] = -1
    · rw [if_pos h2]; simp [h2]
    · rw [if_neg h2]; simp [h2]
def gapFrom (l : List UInt8) (i : Nat) : Int := if idx2 (l.drop i) = -1 then -1 else idx2 (l.drop i) + i
theorem gap_zero (l : List UInt8) : gapFrom l 0 = idx2 l := by
  unfold gapFrom
  rw [List.drop_zero]
  split
  · exact (by assumption : idx2 l = -1).symm
  · omega
theorem gap_step (l : List UInt8) (i : Nat) (h : i < l.length) (hn : ¬ (l[i] = 58 ∧ (l.drop (i + 1)).head? = some 58)) : gapFrom l (i + 1) = gapFrom l i := by
  unfold gapFrom
  rw [List.drop_eq_getElem_cons h, idx2_cons, if_neg hn]
  by_cases h2 : idx2 (l.drop (i + 1)) = -1
  · rw [if_pos h2, if_pos h2, if_pos rfl]
  · have hge : -1 ≤ idx2 (l.drop (i + 1)) := Lib.index_ge _ _
    rw [if_neg h2, if_neg h2, if_neg (by omega)]
    omega
theorem gap_hit (l : List UInt8) (i : Nat) (h : i < l.length) (hn : l[i] = 58 ∧ (l.drop (i + 1)).head? = some 58) : gapFrom l i = i := by
  unfold gapFrom
  rw [List.drop_eq_getElem_cons h, idx2_cons, if_pos hn, if_neg (by omega)]
  omega
theorem gap_end (l : List UInt8) (i : Nat) (h : l.length ≤ i + 1) : gapFrom l i = -1 := by
  unfold gapFrom
  have : idx2 (l.drop i) = -1 := by
    cases e : l.drop i with
    | nil => decide +kernel
    | cons c r =>
      have hl := congrArg List.length e
      rw [List.length_drop, List.length_cons] at hl
      obtain rfl : r = [] := List.eq_nil_of_length_eq_zero (by omega)
      rw [idx2_cons, if_neg (by simp)]
      rw [if_pos (by decide +kernel)]
  rw [if_pos this]
theorem head_at (s : ByteArray) (j : Nat) (h : j < s.size) : (s.data.toList.drop j).head? = some s[j] := by
  have h' : j < s.data.toList.length := h
  rw [List.drop_eq_getElem_cons h']
  rfl
set_option maxRecDepth 100000 in
set_option maxHeartbeats 2000000 in
theorem refGap_any (s : ByteArray) (hs : s.size ≤ 1000000) (g : Int) (hg : Lib.index s.data.toList [58, 58] = g) (w : World) : Calls Tryd.prog 21 #[.string s] w fun e w' => e = .returned (.int .i64 g) ∧ w = w' := by
  have HG := Lib.hid (show gapFrom s.data.toList 0 = g by rw [gap_zero]; exact hg)
  have HSZ := Lib.hid (show s.data.toList.length = s.size from rfl)
  clear hg
  go_enter Tryd.func21, Tryd.ntmps21
  go_wp2
  go_loop [3] (fun i => ∃ k : Nat, k ≤ s.size ∧ i = .int .i64 k ∧ Hid (gapFrom s.data.toList k = g)) (fun i => s.size - (intOf i).toNat)
  case atStart => exact ⟨0, Nat.zero_le _, rfl, HG⟩
  case round =>
    obtain ⟨k, hk, rfl, HA⟩ := hrel
    by_cases hlt : k + 1 < s.size
    · have t1 : (k : Int) + 1 < s.size := by omega
      have t2 : (k : Int) < s.size := by omega
      have hk0 : k < s.size := by omega
      have hd := head_at s (k + 1) hlt
      have hkl : k < s.data.toList.length := hk0
      have hgt : s.data.toList[k]'hkl = s[k] := rfl
      have hway : ((((s[k]'hk0).toNat : Int) == 58) = false ∧ Hid (gapFrom s.data.toList (k + 1) = g)) ∨ ((((s[k]'hk0).toNat : Int) == 58) = true ∧ (((s[k + 1]'hlt).toNat : Int) == 58) = false ∧ Hid (gapFrom s.data.toList (k + 1) = g)) ∨ ((((s[k]'hk0).toNat : Int) == 58) = true ∧ (((s[k + 1]'hlt).toNat : Int) == 58) = true ∧ Hid ((k : Int) = g)) := by
        by_cases h1 : (s[k]'hk0) = 58
        · have b1 : (((s[k]'hk0).toNat : Int) == 58) = true := by rw [h1]; rfl
          by_cases h2 : s[k + 1]'hlt = 58
          · refine .inr (.inr ⟨b1, by rw [h2]; rfl, Lib.hid ?_⟩)
            rw [← HA.out, gap_hit _ k hkl ⟨by rw [hgt, h1], by rw [hd, h2]⟩]
          · refine .inr (.inl ⟨b1, beq_false_of_ne fun e => h2 (UInt8.toNat_inj.1 (by show (s[k + 1]'hlt).toNat = 58; omega)), Lib.hid ?_⟩)
            rw [gap_step _ k hkl (fun e => h2 (by have := e.2; rw [hd] at this; exact Option.some.inj this)), HA.out]
        · refine .inl ⟨beq_false_of_ne fun e => h1 (UInt8.toNat_inj.1 (by show (s[k]'hk0).toNat = 58; omega)), Lib.hid ?_⟩
          rw [gap_step _ k hkl (fun e => h1 (by rw [← hgt]; exact e.1)), HA.out]
      clear hd hkl hgt HA
      rcases hway with ⟨b1, HN⟩ | ⟨b1, b2, HN⟩ | ⟨b1, b2, HN⟩
      · go_wp2
        go_round
        case rel => exact ⟨k + 1, by omega, by go_num, HN⟩
        case measure => simp [intOf]; omega
      · go_wp2
        go_round
        case rel => exact ⟨k + 1, by omega, by go_num, HN⟩
        case measure => simp [intOf]; omega
      · go_wp2
        go_ret
        exact ⟨congrArg (fun x => Ending.returned (Value.int .i64 x)) HN.out, rfl⟩
    · have t1 : ¬ (k : Int) + 1 < s.size := by omega
      have HN := Lib.hid (show (-1 : Int) = g by rw [← HA.out, gap_end _ k (by rw [HSZ.out]; omega)])
      clear HA
      go_wp2
      go_ret
      exact ⟨congrArg (fun x => Ending.returned (Value.int .i64 x)) HN.out, rfl⟩
/-! ### text -/
theorem dig_cut (d : Nat) (h : d < 16) : (⟨#[48, 49, 50, 51, 52, 53, 54, 55, 56, 57, 97, 98, 99, 100, 101, 102]⟩ : ByteArray).extract d (d + 1) = ⟨#[hexC d]⟩ := by
  have : ∀ d : Fin 16, (⟨#[48, 49, 50, 51, 52, 53, 54, 55, 56, 57, 97, 98, 99, 100, 101, 102]⟩ : ByteArray).extract d.val (d.val + 1) = ⟨#[hexC d.val]⟩ := by decide +kernel
  exact this ⟨d, h⟩
set_option maxRecDepth 100000 in
set_option maxHeartbeats 2000000 in
theorem refText_any (n : Nat) (hn : n ≤ 65535) (x : ByteArray) (hx : (⟨(hexN n).toArray⟩ : ByteArray) = x) (w : World) : Calls Tryd.prog 25 #[.int .i64 n] w fun e w' => e = .returned (.string x) ∧ w = w' := by
  have HX := Lib.hid hx
  clear hx
  go_enter Tryd.func25, Tryd.ntmps25
  go_wp2
  go_loop [0, 4] (fun v s => ∃ (k : Nat) (D : List UInt8), v = .int .i64 k ∧ s = .string ⟨D.toArray⟩ ∧ k ≤ 65535 ∧ Hid (((0 < k ∨ D = []) ∧ hexN n = hexN k ++ D) ∨ (k = 0 ∧ D ≠ [] ∧ hexN n = D))) (fun v s => 2 * (intOf v).toNat + (match s with | .string b => if b.size = 0 then 1 else 0 | _ => 0))
  case atStart => exact ⟨n, [], rfl, rfl, hn, Lib.hid (.inl ⟨.inr rfl, by simp⟩)⟩
  case round =>
    obtain ⟨k, D, rfl, rfl, hk, HJ⟩ := hrel
    have hD4 : D.length ≤ 4 := by
      have h4 := hexN_len 3 n (by omega)
      rcases HJ.out with ⟨_, e⟩ | ⟨_, _, e⟩
      · rw [e, List.length_append] at h4; omega
      · rw [e] at h4; omega
    obtain ⟨sb, hsb⟩ : ∃ sb : ByteArray, (⟨D.toArray⟩ : ByteArray) = sb := ⟨_, rfl⟩
    have hss : sb.size = D.length := by rw [← hsb]; rfl
    have hsz : sb.size ≤ 4 := by omega
    have hse : sb.toList.isEmpty = D.isEmpty := by rw [ByteArray.toList_eq, ← hsb]
    by_cases hgo : 0 < k ∨ D = []
    · have hE : hexN n = hexN k ++ D := by
        rcases HJ.out with ⟨_, e⟩ | ⟨h0, h1, _⟩
        · exact e
        · rcases hgo with h | h
          · omega
          · exact absurd h h1
      obtain ⟨d, hd⟩ : ∃ d : Nat, (k : Int) % 16 = (d : Int) := ⟨k % 16, by omega⟩
      obtain ⟨q, hq⟩ : ∃ q : Nat, (k : Int) / 16 = (q : Int) := ⟨k / 16, by omega⟩
      have hd16 : d < 16 := by omega
      have hcut := dig_cut d hd16
      have HN := Lib.hid (show ((0 < q ∨ (hexC d :: D) = []) ∧ hexN n = hexN q ++ (hexC d :: D)) ∨ (q = 0 ∧ (hexC d :: D) ≠ [] ∧ hexN n = hexC d :: D) by
        by_cases h16 : k < 16
        · refine .inr ⟨by omega, by simp, ?_⟩
          rw [hE, hexN_lt h16, show k = d by omega]; rfl
        · refine .inl ⟨.inl (by omega), ?_⟩
          rw [hE, hexN_ge h16, show k / 16 = q by omega, show k % 16 = d by omega]; simp)
      have HSn := Lib.hid (show (⟨#[hexC d]⟩ : ByteArray) ++ sb = ⟨(hexC d :: D).toArray⟩ by rw [← hsb]; apply ByteArray.ext; simp)
      have HMs := Lib.hid (show 2 * q < 2 * k + (if sb.size = 0 then 1 else 0) by
        rcases hgo with h | h
        · omega
        · rw [if_pos (by rw [hss, h]; rfl)]; omega)
      have hq2 : q ≤ 65535 := by omega
      have hway : decide (0 < k) = true ∨ (decide (0 < k) = false ∧ sb.toList.isEmpty = true) := by
        by_cases h : 0 < k
        · exact .inl (decide_eq_true h)
        · rcases hgo with h' | h'
          · exact absurd h' h
          · exact .inr ⟨decide_eq_false h, by rw [hse, h']; rfl⟩
      generalize hexC d = hc at hcut HN HSn
      rw [hsb]
      clear hgo hE hse hss hsb HJ hD4
      rcases hway with e0 | ⟨e0, e1⟩
      all_goals
        go_wp2
        go_round
        case rel => exact ⟨q, hc :: D, rfl, by rw [HSn.out], hq2, HN⟩
        case measure =>
          have h1 := HMs.out
          have h2 : ((⟨#[hc]⟩ : ByteArray) ++ sb).size ≠ 0 := by rw [HSn.out]; show (hc :: D).length ≠ 0; simp
          show 2 * ((q : Int)).toNat + (if ((⟨#[hc]⟩ : ByteArray) ++ sb).size = 0 then 1 else 0) < 2 * ((k : Int)).toNat + (if sb.size = 0 then 1 else 0)
          rw [if_neg h2]
          omega
    · have hx2 : D = hexN n := by
        rcases HJ.out with ⟨h, _⟩ | ⟨_, _, e⟩
        · exact absurd h hgo
        · exact e.symm
      have e0 : decide (0 < k) = false := decide_eq_false (fun h => hgo (.inl h))
      have e1 : sb.toList.isEmpty = false := by
        rw [hse]
        cases D with
        | nil => exact absurd (.inr rfl) hgo
        | cons c r => rfl
      have HF := Lib.hid (show sb = x by rw [← hsb, hx2]; exact HX.out)
      rw [hsb]
      clear hgo hx2 hse hss hsb HJ hD4
      go_wp2
      go_ret
      exact ⟨congrArg (fun x => Ending.returned (Value.string x)) HF.out, rfl⟩
end Go.Proofs.YtgfhjigalefkmaaDoor.Six
