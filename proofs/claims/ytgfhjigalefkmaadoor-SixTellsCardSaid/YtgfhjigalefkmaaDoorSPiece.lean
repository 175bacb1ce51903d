/-
  piece(text), pieces(s).
-/
import Derived.Test.YtgfhjigalefkmaaDoorSJoin
import Derived.Deep.AppendLies
import Derived.Lib.SlicesMore
namespace Go.Proofs.YtgfhjigalefkmaaDoor.Six
open Go.RowKit
set_option linter.unusedSimpArgs false
set_option linter.unusedVariables false

theorem hex_at (c : UInt8) (w : World) : Calls Tryd.prog 34 #[.int .u8 (c.toNat : Int)] w fun e w' => e = .returned (.int .i64 (hexV c)) ∧ w = w' :=
  Ascii.hex_any (c.toNat : Int) (by omega) (by have := c.toNat_lt; omega) w
theorem take_next (s : ByteArray) (k : Nat) (h : k < s.size) : s.data.toList.take (k + 1) = s.data.toList.take k ++ [s[k]] := Ascii.take_snoc s k h
theorem not_ok (s : ByteArray) (k : Nat) (h : k < s.size) (hn : okC s[k] = false) : okP s.data.toList = false := by
  cases e : okP s.data.toList
  · rfl
  · have := List.all_eq_true.1 ((okP_iff _).1 e).2.2 s[k] (by rw [show s[k] = s.data.toList[k]'h from rfl]; exact List.getElem_mem _)
    rw [hn] at this
    cases this
theorem okP_out (s : ByteArray) (h : s.size = 0 ∨ 4 < s.size) : okP s.data.toList = false := by
  have hl : s.data.toList.length = s.size := rfl
  unfold okP
  rw [hl]
  rcases h with h | h
  · rw [decide_eq_false (by omega)]; rfl
  · rw [decide_eq_false (show ¬ s.size ≤ 4 by omega)]; simp
set_option maxRecDepth 100000 in
set_option maxHeartbeats 2000000 in
theorem piece_in (s : ByteArray) (h0 : 0 < s.size) (h4 : s.size ≤ 4) (w : World) : Calls Tryd.prog 28 #[.string s] w fun e w' => e = .returned (.tuple #[.int .i64 (if okP s.data.toList then (valN s.data.toList : Int) else 0), .bool (okP s.data.toList)]) ∧ w = w' := by
  have b0 : s.toList.isEmpty = false := by
    rw [ByteArray.toList_eq]
    cases e : s.data.toList with
    | nil => have : s.data.toList.length = s.size := rfl
             rw [e] at this
             simp at this
             omega
    | cons c r => rfl
  have b4 : decide ((4 : Int) < (s.size : Int)) = false := decide_eq_false (by omega)
  obtain ⟨x, hx⟩ : ∃ x : Int, (if okP s.data.toList then (valN s.data.toList : Int) else 0) = x := ⟨_, rfl⟩
  obtain ⟨b, hb⟩ : ∃ b, okP s.data.toList = b := ⟨_, rfl⟩
  rw [hx, hb]
  have HX := Lib.hid hx
  have HBb := Lib.hid hb
  clear hx hb
  have HE := Lib.hid (show ∀ h : s.data.toList.all okC = true, okP s.data.toList = true from fun h => (okP_iff _).2 ⟨h0, h4, h⟩)
  go_enter Tryd.func28, Tryd.ntmps28
  go_wp2
  go_loopw [4, 5, 6, 16] (fun n _ _ i wr => ∃ k v : Nat, k ≤ s.size ∧ i = .int .i64 k ∧ n = .int .i64 v ∧ Hid (v = valN (s.data.toList.take k) ∧ (s.data.toList.take k).all okC = true) ∧ wr = w) (fun _ _ _ i _ => s.size - (intOf i).toNat)
  case atStart => exact ⟨0, 0, Nat.zero_le _, rfl, rfl, Lib.hid ⟨rfl, rfl⟩, rfl⟩
  case round =>
    obtain ⟨k, v, hk, rfl, rfl, HV, rfl⟩ := hrel
    by_cases hlt : k < s.size
    · have t1 : (k : Int) < s.size := by omega
      have hc := hex_at s[k] wr
      have HC := Lib.hid (show okC s[k] = decide (0 ≤ hexV s[k]) from rfl)
      have hle := hexV_le s[k]
      have HT := Lib.hid (take_next s k hlt)
      have HNo := Lib.hid (not_ok s k hlt)
      have hv : v < 65536 := by
        have h1 := valN_lt (s.data.toList.take k)
        rw [← HV.out.1] at h1
        have h2 : (s.data.toList.take k).length ≤ 4 := by rw [List.length_take]; omega
        have h3 : 16 ^ (s.data.toList.take k).length ≤ 16 ^ 4 := Nat.pow_le_pow_right (by omega) h2
        omega
      by_cases hd : 0 ≤ hexV s[k]
      · have HCs := Lib.hid (show okC s[k] = true by rw [HC.out]; exact decide_eq_true hd)
        obtain ⟨d, hdd⟩ : ∃ d : Nat, hexV s[k] = (d : Int) := ⟨(hexV s[k]).toNat, by omega⟩
        have HD := Lib.hid hdd
        rw [hdd] at hc hle
        have t2 : decide ((d : Int) < 0) = false := decide_eq_false (by omega)
        clear hd hdd HC HNo
        go_wp2_with (go_at_call 34; refine hc.mono ?_; rintro e w' ⟨rfl, rfl⟩)
        go_roundw
        case rel =>
          refine ⟨k + 1, v * 16 + d, by omega, by go_num, by go_num, Lib.hid ⟨?_, ?_⟩, by first | trivial | rfl⟩
          · rw [HT.out, valN_snoc, ← HV.out.1, HD.out]; simp
          · rw [HT.out, List.all_append, HV.out.2]; simp [HCs.out]
        case measure => simp [intOf]; omega
      · have HR := Lib.hid (HNo.out (by rw [HC.out]; exact decide_eq_false hd))
        have t2 : decide (hexV s[k] < 0) = true := decide_eq_true (by omega)
        clear hd HC HNo
        go_wp2_with (go_at_call 34; refine hc.mono ?_; rintro e w' ⟨rfl, rfl⟩)
        go_ret2
        obtain rfl : b = false := by rw [← HBb.out, HR.out]
        obtain rfl : x = 0 := by rw [← HX.out, HR.out]; rfl
        exact ⟨rfl, rfl⟩
    · obtain rfl : k = s.size := by omega
      have HR := Lib.hid (show okP s.data.toList = true ∧ v = valN s.data.toList by
        have h1 := HV.out
        rw [Ascii.take_all] at h1
        exact ⟨HE.out h1.2, h1.1⟩)
      go_wp2
      go_ret2
      obtain rfl : b = true := by rw [← HBb.out, HR.out.1]
      obtain rfl : x = (v : Int) := by rw [← HX.out, HR.out.1, ← HR.out.2]; rfl
      exact ⟨rfl, rfl⟩
set_option maxRecDepth 100000 in
set_option maxHeartbeats 1000000 in
theorem piece_any (s : ByteArray) (hs : s.size ≤ 1000000) (w : World) : Calls Tryd.prog 28 #[.string s] w fun e w' => e = .returned (.tuple #[.int .i64 (if okP s.data.toList then (valN s.data.toList : Int) else 0), .bool (okP s.data.toList)]) ∧ w = w' := by
  by_cases h0 : s.size = 0
  · rw [okP_out s (.inl h0)]
    have b0 : s.toList.isEmpty = true := by
      rw [ByteArray.toList_eq]
      cases e : s.data.toList with
      | nil => rfl
      | cons c r => have : s.data.toList.length = s.size := rfl
                    rw [e] at this
                    simp at this
                    omega
    clear h0
    go_enter Tryd.func28, Tryd.ntmps28
    go_wp2
    go_ret2
    exact ⟨rfl, rfl⟩
  · by_cases h4 : s.size ≤ 4
    · exact piece_in s (by omega) h4 w
    · rw [okP_out s (.inr (by omega))]
      have b4 : decide ((4 : Int) < (s.size : Int)) = true := decide_eq_true (by omega)
      have b0 : s.toList.isEmpty = false := by
        rw [ByteArray.toList_eq]
        cases e : s.data.toList with
        | nil => have : s.data.toList.length = s.size := rfl
                 rw [e] at this
                 simp at this
                 omega
        | cons c r => rfl
      clear h0 h4
      go_enter Tryd.func28, Tryd.ntmps28
      go_wp2
      go_ret2
      exact ⟨rfl, rfl⟩

/-! ### Split at colons, at most nine -/
theorem occ_colon (l : List UInt8) (i : Nat) : Lib.occAt l [58] i = true ↔ l[i]? = some 58 := by
  constructor
  · exact fun h => Lib.occAt_head rfl h
  · intro h
    obtain ⟨hi, e⟩ := List.getElem?_eq_some_iff.1 h
    unfold Lib.occAt
    rw [List.drop_eq_getElem_cons hi, e]
    simp
theorem occ_colon_not (l : List UInt8) (i : Nat) (h : l[i]? ≠ some 58) : Lib.occAt l [58] i = false := by
  cases e : Lib.occAt l [58] i
  · rfl
  · exact absurd ((occ_colon l i).1 e) h
theorem idx_none (l : List UInt8) (h : (58 : UInt8) ∉ l) : Lib.index l [58] = -1 :=
  Lib.index_none fun j _ => occ_colon_not l j fun e => h (List.mem_of_getElem? e)
theorem idx_some (a r : List UInt8) (h : (58 : UInt8) ∉ a) : Lib.index (a ++ 58 :: r) [58] = (a.length : Int) := by
  refine Lib.index_first (by simp) ((occ_colon _ _).2 (by simp)) fun j hj => occ_colon_not _ j fun e => h ?_
  rw [List.getElem?_append_left hj] at e
  exact List.mem_of_getElem? e
theorem split_none (k : Nat) (l : List UInt8) (h : (58 : UInt8) ∉ l) : Lib.splitK [58] 0 k l = [l] := by
  cases k with
  | zero => rfl
  | succ k => unfold Lib.splitK; rw [idx_none l h]; rfl
theorem split_colon (k : Nat) (a r : List UInt8) (h : (58 : UInt8) ∉ a) : Lib.splitK [58] 0 (k + 1) (a ++ 58 :: r) = a :: Lib.splitK [58] 0 k r := by
  conv => lhs; unfold Lib.splitK
  rw [idx_some a r h, if_neg (by simp)]
  simp
theorem split_parts (k : Nat) (l : List UInt8) : ((parts l).length ≤ k + 1 → Lib.splitK [58] 0 k l = parts l) ∧ (k + 1 < (parts l).length → ∃ t ∈ Lib.splitK [58] 0 k l, (58 : UInt8) ∈ t) := by
  induction k generalizing l with
  | zero =>
    rcases first_colon l with hn | ⟨a, r, rfl, hn⟩
    · rw [parts_none l hn]
      exact ⟨fun _ => rfl, fun h => by simp at h⟩
    · rw [parts_cons a r hn]
      have := List.length_pos_iff.2 (parts_ne r)
      exact ⟨fun h => by simp at h; exact absurd h (parts_ne r), fun _ => ⟨a ++ 58 :: r, by simp [Lib.splitK], by simp⟩⟩
  | succ k ih =>
    rcases first_colon l with hn | ⟨a, r, rfl, hn⟩
    · rw [parts_none l hn, split_none _ l hn]
      exact ⟨fun _ => rfl, fun h => by simp at h⟩
    · rw [parts_cons a r hn, split_colon _ a r hn]
      have hi := ih r
      refine ⟨fun h => by rw [hi.1 (by simpa using h)], fun h => ?_⟩
      obtain ⟨t, h1, h2⟩ := hi.2 (by simpa using h)
      exact ⟨t, List.mem_cons_of_mem _ h1, h2⟩
theorem parts_le (l : List UInt8) : (parts l).length ≤ l.length + 1 := by
  induction l with
  | nil => simp [parts]
  | cons c r ih =>
    unfold parts
    split
    · simp; exact ih
    · cases hp : parts r with
      | nil => exact absurd hp (parts_ne r)
      | cons x t => rw [hp] at ih; simp at ih ⊢; omega
def cut9 (l : List UInt8) : List (List UInt8) := Lib.splitK [58] 0 (min 9 (l.length + 1) - 1) l
theorem cut9_all (l : List UInt8) : (cut9 l).all okP = ((parts l).all okP && decide ((parts l).length ≤ 9)) ∧ ((parts l).length ≤ 9 → cut9 l = parts l) := by
  have hle := parts_le l
  have hs := split_parts (min 9 (l.length + 1) - 1) l
  unfold cut9
  by_cases h : (parts l).length ≤ 9
  · have e := hs.1 (by omega)
    rw [e, decide_eq_true h, Bool.and_true]
    exact ⟨rfl, fun _ => rfl⟩
  · obtain ⟨t, h1, h2⟩ := hs.2 (by omega)
    refine ⟨?_, fun h' => absurd h' h⟩
    rw [decide_eq_false h, Bool.and_false, List.all_eq_false]
    refine ⟨t, h1, ?_⟩
    cases e : okP t
    · simp
    · exact absurd h2 (okP_no t e)
/-- As pieces has it. -/
def okK (l : List UInt8) : Bool := okL l && decide ((valL l).length ≤ 9)
def valK (l : List UInt8) : List Nat := if okK l then valL l else []
theorem okK_cut (l : List UInt8) (h : l ≠ []) : okK l = (cut9 l).all okP ∧ (okK l = true → valL l = (cut9 l).map valN) := by
  have hi : l.isEmpty = false := by cases l <;> simp_all
  have hc := cut9_all l
  have hl : (valL l).length = (parts l).length := by unfold valL; rw [hi]; simp
  have ho : okL l = (parts l).all okP := by unfold okL; rw [hi]; rfl
  have e : okK l = (cut9 l).all okP := by unfold okK; rw [ho, hl, hc.1]
  refine ⟨e, fun h => ?_⟩
  unfold okK at h
  rw [Bool.and_eq_true, decide_eq_true_iff, hl] at h
  rw [hc.2 h.2]
  unfold valL
  rw [hi]
  rfl

/-- v is a slice of these numbers, wherever they lie. -/
def Ints (W : World) (v : Value) (l : List Nat) : Prop := (v = .slice none 0 0 ∧ l = []) ∨ ∃ g cap, v = .slice (some ⟨g, 0, none⟩) l.length cap ∧ g < W.heap.size ∧ l.length ≤ cap ∧ ∀ j (h : j < l.length), W.cell? ⟨g, j, none⟩ = some (.int .i64 (l[j] : Int))
theorem Ints.later {W U : World} {v : Value} {l : List Nat} (h : Ints W v l) (hB : Below W.heap.size W U) : Ints U v l := by
  rcases h with h | ⟨g, cap, h1, h2, h3, h4⟩
  · exact .inl h
  · exact .inr ⟨g, cap, h1, Nat.lt_of_lt_of_le h2 hB.size, h3, fun j hj => (hB.cell (p := ⟨g, j, none⟩) h2).trans (h4 j hj)⟩
def iv (n : Nat) : Value := .int .i64 (n : Int)
theorem ints_owned {W : World} {base : Nat} {v : Value} {l : List Nat} (h : W.ownsRow base 3 1 v l.length (l.map iv)) : Ints W v l := by
  rcases h.2 with ⟨h1, h2⟩ | ⟨g, cap, cur, rfl, hb, hg, hn, hc, hs, ht⟩
  · exact .inl ⟨h1, by simpa using h2⟩
  · refine .inr ⟨g, cap, rfl, (Array.getElem?_eq_some_iff.1 hg).1, by simpa using hn, fun j hj => ?_⟩
    rw [h.cellAt j (by omega)]
    simp [iv, hj]
theorem grown_below3 {W w2 : World} {base : Nat} {v : Value} {k : Nat} {xs : List Value} (hrow : W.ownsRow base 3 1 v k xs) (hb : base ≤ W.heap.size) (hgrow : W.grownBy w2 v.ownBlock) : Below base W w2 := by
  refine (Below.refl base W).grown hgrow hb fun j ej => ?_
  rcases hrow.2 with ⟨rfl, _⟩ | ⟨g, cap, cur, rfl, hb, _, _⟩
  · simp [Value.ownBlock] at ej
  · obtain rfl : g = j := by simpa [Value.ownBlock] using ej
    exact hb
theorem Tryd.infoInt : (Tryd.prog.info? 3).map (fun i => (i.zero, i.size, i.bytes)) = some (some (.int .i64 0), 1, 8) := by kernel_rfl
end Go.Proofs.YtgfhjigalefkmaaDoor.Six
