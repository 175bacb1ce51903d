/-
  The document's pieces of layer 6.
-/
import Derived.Test.YtgfhjigalefkmaaDoorSTold
namespace Go.Proofs.YtgfhjigalefkmaaDoor.Six
open Go.RowKit
set_option linter.unusedSimpArgs false
set_option linter.unusedVariables false
theorem refHex_at (c : UInt8) (w : World) : Calls Tryd.prog 29 #[.int .u8 (c.toNat : Int)] w fun e w' => e = .returned (.int .i64 (hexV c)) ∧ w = w' :=
  Ascii.refHex_any (c.toNat : Int) (by omega) (by have := c.toNat_lt; omega) w
/-- The slice's numbers lie elsewhere. -/
def Cells (B : Nat) (W : World) (A : Option Addr) (l : List Nat) : Prop := ∀ j (h : j < l.length), ∃ g, A = some ⟨g, 0, none⟩ ∧ B ≤ g ∧ g < W.heap.size ∧ W.cell? ⟨g, j, none⟩ = some (.int .i64 (l[j] : Int))
theorem Cells.later {B : Nat} {W U : World} {A : Option Addr} {l : List Nat} (h : Cells B W A l) (hB : Below W.heap.size W U) : Cells B U A l := fun j hj => by
  obtain ⟨g, h1, h2, h3, h4⟩ := h j hj
  exact ⟨g, h1, h2, Nat.lt_of_lt_of_le h3 hB.size, (hB.cell (p := ⟨g, j, none⟩) h3).trans h4⟩
theorem Cells.set {B : Nat} {W : World} {A : Option Addr} {l : List Nat} (h : Cells B W A l) (b i : Nat) (v : Value) (hb : b < B) : Cells B (W.setCell ⟨b, i, none⟩ v) A l := fun j hj => by
  obtain ⟨g, h1, h2, h3, h4⟩ := h j hj
  refine ⟨g, h1, h2, by simpa [World.setCell] using h3, ?_⟩
  rw [← h4]
  have := Below.heap_setCell W ⟨b, i, none⟩ v g (show g ≠ b by omega)
  unfold World.cell?
  simp only [this]
theorem cells_nil (B : Nat) (W : World) (A : Option Addr) : Cells B W A [] := fun j hj => by cases hj
theorem cells_owned {W : World} {base : Nat} {v : Value} {l : List Nat} (h : W.ownsRow base 3 1 v l.length (l.map iv)) : ∃ A c, v = .slice A l.length c ∧ Cells base W A l := by
  rcases h.2 with ⟨h1, h2⟩ | ⟨g, cap, cur, rfl, hb, hg, hn, hc, hs, ht⟩
  · obtain rfl : l = [] := by simpa using h2
    exact ⟨none, 0, h1, cells_nil _ _ _⟩
  · refine ⟨_, cap, rfl, fun j hj => ⟨g, rfl, hb, (Array.getElem?_eq_some_iff.1 hg).1, ?_⟩⟩
    rw [h.cellAt j (by omega)]
    simp [iv, hj]
def RefPost (w : World) (l : List Nat) (b : Bool) (e : Ending) (W' : World) : Prop := ∃ A c, e = .returned (.tuple #[.slice A l.length c, .bool b]) ∧ Cells w.heap.size W' A l ∧ Below w.heap.size w W'
/-- What a round knows of the numbers. -/
def Round (l : List UInt8) (k g x : Nat) (L : List Nat) : Prop := ∃ C t, L = C.map valN ∧ x = valN t ∧ g = t.length ∧ Pass l k C t
theorem round_zero (l : List UInt8) : Round l 0 0 0 [] := ⟨[], [], rfl, rfl, rfl, .inl ⟨Nat.zero_le _, told_zero l⟩⟩
theorem round_le {l : List UInt8} {k g x : Nat} {L : List Nat} (h : Round l k g x L) : k ≤ l.length + 1 ∧ g ≤ 4 ∧ x < 65536 ∧ L.length ≤ l.length + 1 := by
  obtain ⟨C, t, rfl, rfl, rfl, hp⟩ := h
  have hv := valN_lt t
  rcases hp with ⟨hk, hT⟩ | ⟨rfl, rfl, rfl, _⟩
  · have h4 : 16 ^ t.length ≤ 16 ^ 4 := Nat.pow_le_pow_right (by omega) hT.2.2.1
    have := parts_len_le hT
    refine ⟨by omega, hT.2.2.1, by omega, by rw [List.length_map]; omega⟩
  · have := parts_le l
    exact ⟨by omega, by simp, by rw [valN_nil]; omega, by rw [List.length_map]; omega⟩
theorem round_end {l : List UInt8} {k g x : Nat} {L : List Nat} (h : Round l k g x L) (hk : ¬ k ≤ l.length) : (parts l).all okP = true ∧ (parts l).map valN = L := by
  obtain ⟨C, t, rfl, rfl, rfl, hp⟩ := h
  rcases hp with ⟨hk', _⟩ | ⟨_, _, rfl, h⟩
  · exact absurd hk' hk
  · exact ⟨h, rfl⟩
theorem round_in {l : List UInt8} {k g x : Nat} {L : List Nat} (h : Round l k g x L) (hk : k ≤ l.length) : ∃ C t, L = C.map valN ∧ x = valN t ∧ g = t.length ∧ Told l k C t := by
  obtain ⟨C, t, h1, h2, h3, hp⟩ := h
  rcases hp with ⟨_, hT⟩ | ⟨h, _⟩
  · exact ⟨C, t, h1, h2, h3, hT⟩
  · omega
/-- At a colon, or at the end. -/
theorem round_cut {l : List UInt8} {k g x : Nat} {L : List Nat} (h : Round l k g x L) (hk : k = l.length ∨ ∃ h : k < l.length, l[k] = 58) : (g = 0 → (parts l).all okP = false) ∧ (g ≠ 0 → Round l (k + 1) 0 0 (L ++ [x])) := by
  obtain ⟨C, t, rfl, rfl, rfl, hT⟩ := round_in h (by rcases hk with rfl | ⟨h, _⟩ <;> omega)
  constructor
  · intro h0
    have := List.length_eq_zero_iff.1 h0
    subst this
    exact told_empty hT (by rcases hk with rfl | h; exact .inl (Nat.le_refl _); exact .inr h)
  · intro h0
    have hn : t ≠ [] := fun e => h0 (by rw [e]; rfl)
    refine ⟨C ++ [t], [], by simp, rfl, rfl, ?_⟩
    rcases hk with rfl | ⟨hk, hc⟩
    · have := told_end hT (Nat.le_refl _) hn
      exact .inr ⟨rfl, rfl, this.1, this.2⟩
    · exact .inl ⟨hk, told_colon hT hk hc hn⟩
/-- At any other byte. -/
theorem round_byte {l : List UInt8} {k g x : Nat} {L : List Nat} (h : Round l k g x L) (hk : k < l.length) (hc : l[k] ≠ 58) : ((hexV l[k] < 0 ∨ 4 ≤ g) → (parts l).all okP = false) ∧ (0 ≤ hexV l[k] → g < 4 → Round l (k + 1) (g + 1) (16 * x + (hexV l[k]).toNat) L) := by
  obtain ⟨C, t, rfl, rfl, rfl, hT⟩ := round_in h (by omega)
  constructor
  · intro hb
    refine told_bad hT hk hc ?_
    rcases hb with h | h
    · exact .inl (decide_eq_false (by omega))
    · exact .inr h
  · intro h1 h2
    refine ⟨C, t ++ [l[k]], rfl, by rw [valN_snoc]; omega, by simp, .inl ⟨hk, told_next hT hk (decide_eq_true h1) h2⟩⟩

set_option maxRecDepth 100000 in
set_option maxHeartbeats 8000000 in
theorem refPieces_in (s : ByteArray) (h0 : 0 < s.size) (hs : s.size ≤ 1000000) (w : World) : Calls Tryd.prog 22 #[.string s] w (RefPost w (valR s.data.toList) (okL s.data.toList)) := by
  obtain ⟨i0, hi, hz0, hz1, hz2⟩ := info_parts Tryd.infoInt
  have b0 := empty_no s h0
  have hOK := okL_parts s.data.toList (data_ne s h0)
  obtain ⟨ok, hok⟩ : ∃ ok, okL s.data.toList = ok := ⟨_, rfl⟩
  obtain ⟨vr, hvr⟩ : ∃ vr, valR s.data.toList = vr := ⟨_, rfl⟩
  rw [hok, hvr]
  have HNo := Lib.hid (show (parts s.data.toList).all okP = false → ok = false ∧ vr = [] by
    intro h
    have e : ok = false := by rw [← hok, hOK.1, h]
    exact ⟨e, by rw [← hvr]; unfold valR; rw [hok, e]; rfl⟩)
  have HYes := Lib.hid (show ∀ L, (parts s.data.toList).all okP = true ∧ (parts s.data.toList).map valN = L → ok = true ∧ vr = L by
    intro L h
    have e : ok = true := by rw [← hok, hOK.1, h.1]
    exact ⟨e, by rw [← hvr]; unfold valR; rw [hok, e, ← h.2]; exact hOK.2⟩)
  have HSZ := Lib.hid (show s.data.toList.length = s.size from rfl)
  have HZ := Lib.hid (round_zero s.data.toList)
  clear h0 hok hvr hOK
  go_enter Tryd.func22, Tryd.ntmps22
  go_wp2
  go_loopw [4, 5, 6, 7, 8] (fun v n g i _ wr => ∃ (k x d : Nat) (L : List Nat), i = .int .i64 k ∧ n = .int .i64 x ∧ g = .int .i64 d ∧ wr.ownsRow w.heap.size 3 1 v L.length (L.map iv) ∧ Hid (Round s.data.toList k d x L) ∧ Below w.heap.size w wr) (fun _ _ _ i _ _ => s.size + 2 - (intOf i).toNat)
  case atStart => exact ⟨0, 0, 0, [], rfl, rfl, rfl, World.ownsRow_nil _ _ _ _, HZ, Below.refl _ _⟩
  case round =>
    clear HZ
    obtain ⟨k, x, d, L, rfl, rfl, rfl, hrow, HR, hw⟩ := hrel
    have hle := round_le HR.out
    rw [HSZ.out] at hle
    obtain ⟨hk, hd4, hx6, hLl⟩ := hle
    by_cases hlt : k ≤ s.size
    · have t1 : (k : Int) ≤ s.size := by omega
      have hway : (((k : Int) == (s.size : Int)) = true ∧ k = s.size) ∨ (∃ h : k < s.size, ((k : Int) == (s.size : Int)) = false ∧ (((s[k]'h).toNat : Int) == 58) = true ∧ s[k]'h = 58) ∨ (∃ h : k < s.size, ((k : Int) == (s.size : Int)) = false ∧ (((s[k]'h).toNat : Int) == 58) = false ∧ s[k]'h ≠ 58) := by
        by_cases h1 : k = s.size
        · exact .inl ⟨by simp [h1], h1⟩
        · have h2 : k < s.size := by omega
          have e1 : ((k : Int) == (s.size : Int)) = false := beq_false_of_ne (by omega)
          by_cases h3 : s[k]'h2 = 58
          · exact .inr (.inl ⟨h2, e1, by rw [h3]; rfl, h3⟩)
          · exact .inr (.inr ⟨h2, e1, beq_false_of_ne fun e => h3 (UInt8.toNat_inj.1 (by show (s[k]'h2).toNat = 58; omega)), h3⟩)
      have hb2 : L.length + 1 ≤ maxLen := by unfold maxLen; omega
      have hb3 : (L.length + 1) * 8 ≤ 140737488355328 := by omega
      have hsz := hw.size
      have hsz1 : w.heap.size ≤ (wr.alloc (.cells #[.int .i64 (x : Int)] 3)).heap.size := by simp; omega
      have HO := Lib.hid (show ∀ u ∈ [Value.int .i64 (x : Int)], u.oneCell' = true by simp [Value.oneCell'])
      rcases hway with ⟨e1, hke⟩ | ⟨hlt2, e1, e2, hc⟩ | ⟨hlt2, e1, e2, hc⟩
      · have HC := Lib.hid (round_cut HR.out (.inl (by rw [HSZ.out]; exact hke)))
        clear HR hke
        by_cases hd0 : d = 0
        · have HN := Lib.hid (HNo.out (HC.out.1 hd0))
          have e3 : ((d : Int) == 0) = true := by simp [hd0]
          clear HC hd0
          go_wp2
          go_ret2
          obtain ⟨rfl, rfl⟩ := HN.out
          exact ⟨none, 0, rfl, cells_nil _ _ _, hw⟩
        · have HN := Lib.hid (HC.out.2 hd0)
          have e3 : ((d : Int) == 0) = false := beq_false_of_ne (by omega)
          clear HC hd0
          go_wp2_with (at_builtin; refine wpList_append_own _ rfl _ _ 38 rfl w.heap.size 3 i0 (.int .i64 0) 1 8 Tryd.underlying38 hi hz0 hz1 hz2 rfl (by decide) _ _ _ rfl (hrow.alloc _) ⟨wr.heap.size, 0, none⟩ 1 1 [.int .i64 (x : Int)] rfl rfl (cell_one_new3 _ _) HO.out hb2 hb3 hsz1 ?_; intro v' w2 hown' hgrow _)
          go_roundw
          case rel => exact ⟨k + 1, 0, 0, L ++ [x], by go_num, rfl, rfl, by simpa [iv] using hown', HN, (hw.alloc hw.size _).trans (grown_below3 (hrow.alloc _) hsz1 hgrow)⟩
          case measure => simp [intOf]; omega
      · have HC := Lib.hid (round_cut HR.out (.inr ⟨hlt2, hc⟩))
        clear HR hc
        by_cases hd0 : d = 0
        · have HN := Lib.hid (HNo.out (HC.out.1 hd0))
          have e3 : ((d : Int) == 0) = true := by simp [hd0]
          clear HC hd0
          go_wp2
          go_ret2
          obtain ⟨rfl, rfl⟩ := HN.out
          exact ⟨none, 0, rfl, cells_nil _ _ _, hw⟩
        · have HN := Lib.hid (HC.out.2 hd0)
          have e3 : ((d : Int) == 0) = false := beq_false_of_ne (by omega)
          clear HC hd0
          go_wp2_with (at_builtin; refine wpList_append_own _ rfl _ _ 38 rfl w.heap.size 3 i0 (.int .i64 0) 1 8 Tryd.underlying38 hi hz0 hz1 hz2 rfl (by decide) _ _ _ rfl (hrow.alloc _) ⟨wr.heap.size, 0, none⟩ 1 1 [.int .i64 (x : Int)] rfl rfl (cell_one_new3 _ _) HO.out hb2 hb3 hsz1 ?_; intro v' w2 hown' hgrow _)
          go_roundw
          case rel => exact ⟨k + 1, 0, 0, L ++ [x], by go_num, rfl, rfl, by simpa [iv] using hown', HN, (hw.alloc hw.size _).trans (grown_below3 (hrow.alloc _) hsz1 hgrow)⟩
          case measure => simp [intOf]; omega
      · have hB := round_byte HR.out hlt2 hc
        have hcx := refHex_at (s[k]'hlt2) wr
        have hxl := hexV_le (s[k]'hlt2)
        have hB' : ((hexV (s[k]'hlt2) < 0 ∨ 4 ≤ d) → (parts s.data.toList).all okP = false) ∧ (0 ≤ hexV (s[k]'hlt2) → d < 4 → Round s.data.toList (k + 1) (d + 1) (16 * x + (hexV (s[k]'hlt2)).toNat) L) := hB
        clear HR hc hB hb2 hb3 hsz hsz1 HO
        obtain ⟨z, hz⟩ : ∃ z, hexV (s[k]'hlt2) = z := ⟨_, rfl⟩
        rw [hz] at hB' hcx hxl
        clear hz
        by_cases hz0' : 0 ≤ z
        · obtain ⟨y, rfl⟩ : ∃ y : Nat, z = (y : Int) := ⟨z.toNat, by omega⟩
          have e3 : decide ((y : Int) < 0) = false := decide_eq_false (by omega)
          by_cases hd : d < 4
          · have HN := Lib.hid (hB'.2 hz0' hd)
            have e4 : decide ((4 : Int) < (d : Int) + 1) = false := decide_eq_false (by omega)
            clear hB' hz0'
            go_wp2_with (go_at_call 29; refine hcx.mono ?_; rintro e w' ⟨rfl, rfl⟩)
            go_roundw
            case rel => exact ⟨k + 1, 16 * x + y, d + 1, L, by go_num, by go_num, by go_num, hrow, HN, hw⟩
            case measure => simp [intOf]; omega
          · have HN := Lib.hid (HNo.out (hB'.1 (.inr (by omega))))
            have e4 : decide ((4 : Int) < (d : Int) + 1) = true := decide_eq_true (by omega)
            clear hB' hz0'
            go_wp2_with (go_at_call 29; refine hcx.mono ?_; rintro e w' ⟨rfl, rfl⟩)
            go_ret2
            obtain ⟨rfl, rfl⟩ := HN.out
            exact ⟨none, 0, rfl, cells_nil _ _ _, hw⟩
        · have HN := Lib.hid (HNo.out (hB'.1 (.inl (by omega))))
          have e3 : decide (z < 0) = true := decide_eq_true (by omega)
          clear hB' hz0'
          go_wp2_with (go_at_call 29; refine hcx.mono ?_; rintro e w' ⟨rfl, rfl⟩)
          go_ret2
          obtain ⟨rfl, rfl⟩ := HN.out
          exact ⟨none, 0, rfl, cells_nil _ _ _, hw⟩
    · have t1 : ¬ (k : Int) ≤ s.size := by omega
      have HD := Lib.hid (HYes.out L (round_end HR.out (by rw [HSZ.out]; exact hlt)))
      obtain ⟨A, c, rfl, hcs⟩ := cells_owned hrow
      have HCs := Lib.hid hcs
      clear hrow HR hcs
      go_wp2
      go_ret2
      obtain ⟨rfl, rfl⟩ := HD.out
      exact ⟨A, c, rfl, HCs.out, hw⟩
set_option maxRecDepth 100000 in
set_option maxHeartbeats 1000000 in
theorem refPieces_any (s : ByteArray) (hs : s.size ≤ 1000000) (w : World) : Calls Tryd.prog 22 #[.string s] w (RefPost w (valR s.data.toList) (okL s.data.toList)) := by
  by_cases h0 : s.size = 0
  · have e := empty_yes s h0
    rw [e]
    have b0 : s.toList.isEmpty = true := by rw [ByteArray.toList_eq, e]; rfl
    clear h0 e
    go_enter Tryd.func22, Tryd.ntmps22
    go_wp2
    go_ret2
    exact ⟨none, 0, rfl, cells_nil _ _ _, Below.refl _ _⟩
  · exact refPieces_in s (by omega) hs w
end Go.Proofs.YtgfhjigalefkmaaDoor.Six
