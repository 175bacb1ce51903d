/-
  Show(n): a number in digits.
-/
import Derived.Test.YtdmjolmclnnngaaRev
import Derived.Test.YtdmjolmclnnngaaGoto
import Derived.Maps.AppendAt
namespace Go.Proofs.Ytdmjolmclnnngaa
open Go.RowKit
set_option linter.unusedSimpArgs false
set_option linter.unusedVariables false

def boxN (B : Nat) (w : World) : Nat := match w.cell? ⟨B, 0, none⟩ with
  | some (.int _ q) => q.natAbs
  | _ => 0
theorem boxN_of {B : Nat} {w : World} {m : Nat} (h : Boxed w B 3 (.int .i64 (-(m : Int)))) : boxN B w = m := by
  unfold boxN
  rw [h.cell]
  simp

/-- A slice of bytes that the call owns, as a text. -/
theorem conv_owned {W : World} {base : Nat} {v : Value} {k : Nat} {l : List UInt8} (h : W.ownsRow base 5 1 v k (l.map u8v)) : (convert 35 9 v).run Try.prog W = .ok (.string ⟨l.toArray⟩) W := by
  have hl : l.length = k := by simpa using h.1
  rcases h.2 with ⟨rfl, rfl⟩ | ⟨g, cap, cur, rfl, _, hg, _, _, hcs, htk⟩
  · obtain rfl : l = [] := List.length_eq_zero_iff.1 hl
    exact run_convert_bytes_nil W 35 5 Try.underlying35 Try.underlying5 0 0 9 Try.underlying9
  · subst hl
    refine run_convert_bytes_back W 35 9 5 ⟨g, 0, none⟩ cap l Try.underlying35 Try.underlying5 Try.underlying9 ?_
    intro j hj
    have e : (⟨g, 0, none⟩ : Addr).add j = ⟨g, j, none⟩ := by unfold Addr.add; split <;> simp_all
    rw [e]
    have h1 : cur[j]? = some (u8v l[j]) := by
      have h2 : (cur.toList.take (l.length * 1))[j]? = (l.map u8v)[j]? := by rw [htk]
      rw [List.getElem?_take_of_lt (by omega), List.getElem?_map, List.getElem?_eq_getElem hj] at h2
      simpa using h2
    simp [World.cell?, hg, h1, u8v]

theorem Try.infoByte : (Try.prog.info? 5).map (fun i => (i.zero, i.size, i.bytes)) = some (some (.int .u8 0), 1, 1) := by kernel_rfl

theorem takeLast_at (m q : Nat) (d : UInt8) (hq : q = m / 10) (hd : d = digC (m % 10)) (hm : m ≤ 9223372036854775808) (B : Nat) (w : World) (hB : Boxed w B 3 (.int .i64 (-(m : Int)))) :
    Calls Try.prog 19 #[.pointer (some ⟨B, 0, none⟩)] w fun e w' => e = .returned (.int .u8 (d.toNat : Int)) ∧ w.setCell ⟨B, 0, none⟩ (.int .i64 (-(q : Int))) = w' := by
  subst hq; subst hd
  exact takeLast_any m hm B w hB

/-- What holds at the label. -/
def ShowAt (n : Int) (B : Nat) (w0 : World) (a : Act) (w : World) : Prop :=
  ∃ (m : Nat) (v : Value) (tl : List UInt8) (u8 u9 u10 u12 u13 u14 u15 u16 u17 u18 : Value),
    a = { tmps := #[.int .i64 n, undef, .string ⟨#[]⟩, .pointer (some ⟨B, 0, none⟩), .func (.func 19) #[] #[.pointer (some ⟨B, 0, none⟩)], v, .int .i64 n, .int .i64 n, u8, u9, u10, .func (.func 19) #[] #[.pointer (some ⟨B, 0, none⟩)], u12, u13, u14, u15, u16, u17, u18, undef, undef, undef, undef, undef, undef, undef, undef, undef], defers := [] } ∧
    Boxed w B 3 (.int .i64 (-(m : Int))) ∧ w.ownsRow w0.heap.size 5 1 v tl.length (tl.map u8v) ∧ m ≤ 9223372036854775808 ∧ Hid (showN n.natAbs = showN m ++ tl.reverse) ∧ Below w0.heap.size w0 w

theorem showI_end (n : Int) (h : 0 ≤ n) (l : List UInt8) (e : showN n.natAbs = l.reverse) : showI n = l.reverse := by
  rw [showI_nonneg h, ← e]
  congr 1
  omega
theorem showI_end' (n : Int) (h : n < 0) (l : List UInt8) (e : showN n.natAbs = l.reverse) : showI n = (l ++ [45]).reverse := by
  rw [showI_neg h, e]
  simp
theorem shown_more (N m q : Nat) (d : UInt8) (tl : List UInt8) (hq : q = m / 10) (hd : d = digC (m % 10)) (h : showN N = showN m ++ tl.reverse) (h0 : q ≠ 0) : showN N = showN q ++ (tl ++ [d]).reverse := by
  rw [h, showN_ge (n := m) (by omega), ← hq, ← hd]
  simp
theorem shown_last (N m q : Nat) (d : UInt8) (tl : List UInt8) (hq : q = m / 10) (hd : d = digC (m % 10)) (h : showN N = showN m ++ tl.reverse) (h0 : q = 0) : showN N = (tl ++ [d]).reverse := by
  rw [h, showN_lt (n := m) (by omega), hd, show m % 10 = m by omega]
  simp
theorem shown_short (n : Int) (h0 : -9223372036854775808 ≤ n) (h1 : n ≤ 9223372036854775807) (m : Nat) (tl : List UInt8) (h : showN n.natAbs = showN m ++ tl.reverse) : tl.length ≤ 18 := by
  have a := showN_len n.natAbs (by omega)
  have b := showN_pos m
  rw [h] at a
  simp at a
  omega

/-- The frame of the box and of the row behind 'turned = append(turned, x)'. -/
theorem appended_at {W w2 : World} {base B : Nat} {u : Value} {v v' : Value} {k : Nat} {xs ys : List Value} {o : Obj} (hbox : Boxed W B 3 u) (hrow : W.ownsRow base 5 1 v k xs) (hb : base ≤ W.heap.size)
    (hown' : w2.ownsRow base 5 1 v' (k + 1) ys) (hgrow : (W.alloc o).grownBy w2 v.ownBlock) : Boxed w2 B 3 u ∧ Below base W w2 := by
  refine ⟨(hbox.alloc o).kept hgrow (hbox.not_row (by decide) hrow), ((Below.refl base W).alloc hb o).grown hgrow (by simp; omega) fun j ej => ?_⟩
  rcases hrow.2 with ⟨rfl, _⟩ | ⟨g, cap, cur, rfl, hb, _, _⟩
  · simp [Value.ownBlock] at ej
  · obtain rfl : g = j := by simpa [Value.ownBlock] using ej
    exact hb

theorem row_base {W : World} {base g k cap : Nat} {xs : List Value} (h : W.ownsRow base 5 1 (.slice (some ⟨g, 0, none⟩) k cap) k xs) : base ≤ g := by
  rcases h.2 with ⟨e, _⟩ | ⟨g', cap', cur, e, hb, _⟩
  · cases e
  · cases e; exact hb
theorem reverse_at (g cap base k : Nat) (l : List UInt8) (hk : l.length = k) (hl : k ≤ 100) (w0 w : World) (h : w.ownsRow base 5 1 (.slice (some ⟨g, 0, none⟩) k cap) k (l.map u8v)) (hB : Below base w0 w) (hs : base ≤ w.heap.size) :
    Calls Try.prog 20 #[.slice (some ⟨g, 0, none⟩) k cap] w fun e w' => e = .returned (.tuple #[]) ∧ (convert 35 9 (.slice (some ⟨g, 0, none⟩) k cap)).run Try.prog w' = .ok (.string ⟨l.reverse.toArray⟩) w' ∧ Below base w0 w' := by
  subst hk
  refine (reverse_any g cap base l (by omega) w h).mono ?_
  rintro e w' ⟨he, hr, hg⟩
  exact ⟨he, conv_owned hr, hB.grown hg hs (fun j ej => by cases ej; exact row_base h)⟩

set_option maxHeartbeats 4000000 in
set_option maxRecDepth 100000 in
theorem show_calls (n : Int) (h0 : -9223372036854775808 ≤ n) (h1 : n ≤ 9223372036854775807) (w : World) :
    Calls Try.prog 13 #[.int .i64 n] w fun e W' => e = .returned (.string ⟨(showI n).toArray⟩) ∧ Below w.heap.size w W' := by
  obtain ⟨i0, hi, hz0, hz1, hz2⟩ := info_parts Try.infoByte
  go_enter Try.func13, Try.ntmps13
  go_wp2
  refine wp_scope_label 0 (ShowAt n w.heap.size w) (fun _ w' => boxN w.heap.size w') rfl ?_ ?_
  · rintro a W ⟨m, v, tl, u8, u9, u10, u12, u13, u14, u15, u16, u17, u18, rfl, hbox, hrow, hm, heq, hB⟩
    obtain ⟨q, hq⟩ : ∃ q, q = m / 10 := ⟨_, rfl⟩
    obtain ⟨d, hd⟩ : ∃ d, d = digC (m % 10) := ⟨_, rfl⟩
    have hlen := shown_short n h0 h1 m tl heq.out
    have hμ := Lib.hid (boxN_of hbox)
    obtain ⟨W1, hW1⟩ : ∃ W1, W1 = W.setCell ⟨w.heap.size, 0, none⟩ (.int .i64 (-(q : Int))) := ⟨_, rfl⟩
    have hbox1 : Boxed W1 w.heap.size 3 (.int .i64 (-(q : Int))) := by rw [hW1]; exact hbox.set _
    have hrow1 : W1.ownsRow w.heap.size 5 1 v tl.length (tl.map u8v) := by rw [hW1]; exact hrow.kept (grownBy_setCell' W w.heap.size (.int .i64 (-(q : Int)))) (.inr (hbox.not_row (by decide) hrow).symm)
    have hB1 : Below w.heap.size w W1 := by rw [hW1]; exact hB.setCell (p := ⟨w.heap.size, 0, none⟩) (Nat.le_refl _) (.int .i64 (-(q : Int)))
    have hb2 : tl.length + 1 ≤ maxLen := by unfold maxLen; omega
    have hb3 : (tl.length + 1) * 1 ≤ 140737488355328 := by omega
    have hb4 : tl.length + 1 + 1 ≤ maxLen := by unfold maxLen; omega
    have hb5 : (tl.length + 1 + 1) * 1 ≤ 140737488355328 := by omega
    have hsz := hB1.size
    have hsz1 : w.heap.size ≤ (W1.alloc (.cells #[.int .u8 (d.toNat : Int)] 5)).heap.size := by simp; omega
    have hone : ∀ u ∈ [Value.int .u8 (d.toNat : Int)], u.oneCell' = true := by simp [Value.oneCell']
    have hone2 : ∀ u ∈ [Value.int .u8 45], u.oneCell' = true := by simp [Value.oneCell']
    have hQ := Lib.hid hq
    have hD := Lib.hid hd
    have hBOX := Lib.hid hbox
    have HW1 := Lib.hid hW1
    by_cases hz : q = 0
    · have hlast := Lib.hid (shown_last n.natAbs m q d tl hq hd heq.out hz)
      have t1 : (-(q : Int) != 0) = false := by simp; omega
      have HL := Lib.hid (show tl.length + 1 ≤ 100 ∧ tl.length + 1 + 1 ≤ 100 by omega)
      clear hq hd heq hbox hrow hB hW1 hz hμ
      by_cases hn : n < 0
      · have t2 : decide (n < 0) = true := by simpa using hn
        have hend := Lib.hid (show showI n = 45 :: d :: tl.reverse by rw [showI_end' n hn _ hlast.out]; simp)
        go_wp2_with (first | (go_at_call 19; refine (takeLast_at m q d hQ.out hD.out hm _ _ hBOX.out).mono ?_; rintro e w' ⟨rfl, hw'⟩; obtain rfl := HW1.out.trans hw') | (at_builtin; refine wpList_append_own _ rfl _ _ 35 rfl w.heap.size 5 i0 (.int .u8 0) 1 1 Try.underlying35 hi hz0 hz1 hz2 rfl (by decide) _ _ _ rfl (hrow1.alloc _) ⟨W1.heap.size, 0, none⟩ 1 1 [.int .u8 (d.toNat : Int)] rfl rfl (cell_one_new _ _ _) hone hb2 hb3 hsz1 ?_; intro v' w2 hown' hgrow _; obtain ⟨hbox2, hB2⟩ := appended_at hbox1 hrow1 hsz hown' hgrow; have hc2 := hbox2.cell; obtain ⟨g', cap', rfl⟩ := ownsRow_succ hown'; have hs2 := Nat.le_trans hsz hB2.size; have hsz2 : w.heap.size ≤ (w2.alloc (.cells #[.int .u8 45] 5)).heap.size := (by simp; omega)) | (at_builtin; refine wpList_append_own _ rfl _ _ 35 rfl w.heap.size 5 i0 (.int .u8 0) 1 1 Try.underlying35 hi hz0 hz1 hz2 rfl (by decide) _ _ _ rfl (hown'.alloc _) ⟨w2.heap.size, 0, none⟩ 1 1 [.int .u8 45] rfl rfl (cell_one_new _ _ _) hone2 hb4 hb5 hsz2 ?_; intro v'' w3 hown'' hgrow2 _; obtain ⟨hbox3, hB3⟩ := appended_at hbox2 hown' hs2 hown'' hgrow2; obtain ⟨g'', cap'', rfl⟩ := ownsRow_succ hown''; have hs3 := Nat.le_trans hs2 hB3.size; have hr : w3.ownsRow w.heap.size 5 1 (.slice (some ⟨g'', 0, none⟩) (tl.length + 1 + 1) cap'') (tl.length + 1 + 1) ((tl ++ [d] ++ [45]).map u8v) := (by simpa [u8v] using hown'')) | (go_at_call 20; refine (reverse_at g'' cap'' w.heap.size (tl.length + 1 + 1) _ (by simp) HL.out.2 w w3 hr ((hB1.trans hB2).trans hB3) hs3).mono ?_; rintro e w4 ⟨rfl, hcv, hB4⟩))
        simp only [Exit.jump]
        go_ret
        exact ⟨by rw [hend.out]; rfl, hB4⟩
      · have t2 : decide (n < 0) = false := by simpa using hn
        have hend := Lib.hid (show showI n = d :: tl.reverse by rw [showI_end n (by omega) _ hlast.out]; simp)
        go_wp2_with (first | (go_at_call 19; refine (takeLast_at m q d hQ.out hD.out hm _ _ hBOX.out).mono ?_; rintro e w' ⟨rfl, hw'⟩; obtain rfl := HW1.out.trans hw') | (at_builtin; refine wpList_append_own _ rfl _ _ 35 rfl w.heap.size 5 i0 (.int .u8 0) 1 1 Try.underlying35 hi hz0 hz1 hz2 rfl (by decide) _ _ _ rfl (hrow1.alloc _) ⟨W1.heap.size, 0, none⟩ 1 1 [.int .u8 (d.toNat : Int)] rfl rfl (cell_one_new _ _ _) hone hb2 hb3 hsz1 ?_; intro v' w2 hown' hgrow _; obtain ⟨hbox2, hB2⟩ := appended_at hbox1 hrow1 hsz hown' hgrow; have hc2 := hbox2.cell; obtain ⟨g', cap', rfl⟩ := ownsRow_succ hown'; have hs2 := Nat.le_trans hsz hB2.size; have hr : w2.ownsRow w.heap.size 5 1 (.slice (some ⟨g', 0, none⟩) (tl.length + 1) cap') (tl.length + 1) ((tl ++ [d]).map u8v) := (by simpa [u8v] using hown')) | (go_at_call 20; refine (reverse_at g' cap' w.heap.size (tl.length + 1) _ (by simp) HL.out.1 w w2 hr (hB1.trans hB2) hs2).mono ?_; rintro e w4 ⟨rfl, hcv, hB4⟩))
        simp only [Exit.jump]
        go_ret
        exact ⟨by rw [hend.out]; rfl, hB4⟩
    · have t1 : (-(q : Int) != 0) = true := by simp; omega
      have hmore := Lib.hid (shown_more n.natAbs m q d tl hq hd heq.out hz)
      have hlt := Lib.hid (show q < m ∧ q ≤ 9223372036854775808 by omega)
      clear hq hd heq hbox hrow hB hW1 hz
      go_wp2_with (first | (go_at_call 19; refine (takeLast_at m q d hQ.out hD.out hm _ _ hBOX.out).mono ?_; rintro e w' ⟨rfl, hw'⟩; obtain rfl := HW1.out.trans hw') | (at_builtin; refine wpList_append_own _ rfl _ _ 35 rfl w.heap.size 5 i0 (.int .u8 0) 1 1 Try.underlying35 hi hz0 hz1 hz2 rfl (by decide) _ _ _ rfl (hrow1.alloc _) ⟨W1.heap.size, 0, none⟩ 1 1 [.int .u8 (d.toNat : Int)] rfl rfl (cell_one_new _ _ _) hone hb2 hb3 hsz1 ?_; intro v' w2 hown' hgrow _; obtain ⟨hbox2, hB2⟩ := appended_at hbox1 hrow1 hsz hown' hgrow; have hc2 := hbox2.cell))
      go_step3
      refine ⟨rfl, ⟨q, v', tl ++ [d], _, _, _, _, _, _, _, _, _, _, rfl, hbox2, ?_, hlt.out.2, hmore, hB1.trans hB2⟩, ?_⟩
      · simpa [u8v] using hown'
      · rw [boxN_of hbox2, hμ.out]
        exact hlt.out.1
  · intro hpass
    cases p : decide (0 < n)
    · go_wp2
      go_step3
      rename_i K hK
      have hn : ¬ 0 < n := by simpa using p
      refine hK _ _ (hpass _ _ ⟨n.natAbs, _, [], _, _, _, _, _, _, _, _, _, _, rfl, ?_, ⟨rfl, .inl ⟨rfl, rfl⟩⟩, by omega, Lib.hid (by simp), ?_⟩)
      · have := Boxed.new w 3 (.int .i64 n)
        rw [show -((n.natAbs : Nat) : Int) = n by omega]
        exact this
      · exact (Below.refl _ w).alloc (Nat.le_refl _) _
    · have hn : 0 < n := by simpa using p
      go_wp2
      go_step3
      rename_i K hK
      refine hK _ _ (hpass _ _ ⟨n.natAbs, _, [], _, _, _, _, _, _, _, _, _, _, rfl, ?_, ⟨rfl, .inl ⟨rfl, rfl⟩⟩, by omega, Lib.hid (by simp), ?_⟩)
      · have := Boxed.new w 3 (.int .i64 (-n))
        rw [show -((n.natAbs : Nat) : Int) = -n by omega]
        exact this
      · exact (Below.refl _ w).alloc (Nat.le_refl _) _

end Go.Proofs.Ytdmjolmclnnngaa
