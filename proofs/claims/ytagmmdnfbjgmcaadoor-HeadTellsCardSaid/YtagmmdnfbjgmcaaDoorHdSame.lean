/-
  Two lists of fields compared: the document's Same, slices.Equal, Same.
-/
import Derived.Deep.QuietTactic
import Derived.BigQuiet
import Derived.Test.YtagmmdnfbjgmcaaDoorHdObj
namespace Go.Proofs.YtagmmdnfbjgmcaaDoor.Head
set_option linter.unusedSimpArgs false
set_option linter.unusedVariables false
set_option maxRecDepth 100000


open Go.RowKit Go.Shelf

open Url


theorem same_next (l m : List F) (k : Nat) (h1 : k < l.length) (h2 : k < m.length) (h : l.take k = m.take k) (he : l[k] = m[k]) : l.take (k + 1) = m.take (k + 1) := by
  rw [List.take_succ_eq_append_getElem h1, List.take_succ_eq_append_getElem h2, h, he]

theorem same_not (l m : List F) (k : Nat) (h1 : k < l.length) (h2 : k < m.length) (he : l[k] ≠ m[k]) : decide (l = m) = false := by
  rw [decide_eq_false_iff_not]
  rintro rfl
  exact he rfl

theorem same_all (l m : List F) (k : Nat) (hl : l.length = m.length) (hk : ¬ k < l.length) (h : l.take k = m.take k) : decide (l = m) = true := by
  rw [decide_eq_true_iff]
  rwa [List.take_of_length_le (by omega), List.take_of_length_le (by omega)] at h

theorem same_len (l m : List F) (hl : l.length ≠ m.length) : decide (l = m) = false := by
  rw [decide_eq_false_iff_not]
  rintro rfl
  exact hl rfl

theorem tb_eq (x y : T) : ((tb x).toList == (tb y).toList) = (x == y) := by rw [tb_toList, tb_toList]

set_option maxRecDepth 100000 in
set_option maxHeartbeats 2000000 in
theorem refSame_any (v u : Value) (l m : List F) (w : World) (h : Flds w v l) (h' : Flds w u m) :
    Calls Tryd.prog 13 #[v, u] w fun e w' => e = .returned (.bool (decide (l = m))) ∧ Below w.heap.size w w' := by
  obtain ⟨a, c, rfl, h1, h2, h3, h4⟩ := h
  obtain ⟨a', c', rfl, h1', h2', h3', h4'⟩ := h'
  unfold maxLen at h2 h2'
  have hl : l.length ≤ 9223372036854775807 := by omega
  have hl' : m.length ≤ 9223372036854775807 := by omega
  have H3 := Lib.hid h3
  have H4 := Lib.hid h4
  have H3' := Lib.hid h3'
  have H4' := Lib.hid h4'
  clear h3 h4 h3' h4'
  by_cases hlen : l.length = m.length
  · have q0 : ((l.length : Int) != (m.length : Int)) = false := by simp [hlen]
    have HL := Lib.hid hlen
    clear hlen
    go_enter Tryd.func13, Tryd.ntmps13
    go_wp2
    go_loopw [5] (fun i wr => ∃ k : Nat, k ≤ l.length ∧ i = .int .i64 k ∧ Hid (l.take k = m.take k) ∧ Below w.heap.size w wr) (fun i _ => l.length - (intOf i).toNat)
    case atStart => exact ⟨0, Nat.zero_le _, rfl, Lib.hid rfl, Below.refl _ _⟩
    case round =>
      obtain ⟨k, hk, rfl, HA, hB⟩ := hrel
      by_cases hlt : k < l.length
      · have hltm : k < m.length := by rw [← HL.out]; exact hlt
        obtain ⟨b, off, rfl, hcell⟩ := H4.out (by intro e; rw [e] at hlt; simp at hlt)
        obtain ⟨b', off', rfl, hcell'⟩ := H4'.out (by intro e; rw [e] at hltm; simp at hltm)
        have g0 : wr.cell? ⟨b, off + k * 2, none⟩ = _ := (hB.cell (p := ⟨b, off + k * 2, none⟩) (World.block_lt_of_cell? _ _ (hcell k hlt).1)).trans (hcell k hlt).1
        have g1 : wr.cell? ⟨b, off + k * 2 + 1, none⟩ = _ := (hB.cell (p := ⟨b, off + k * 2 + 1, none⟩) (World.block_lt_of_cell? _ _ (hcell k hlt).2)).trans (hcell k hlt).2
        have g0' : wr.cell? ⟨b', off' + k * 2, none⟩ = _ := (hB.cell (p := ⟨b', off' + k * 2, none⟩) (World.block_lt_of_cell? _ _ (hcell' k hltm).1)).trans (hcell' k hltm).1
        have g1' : wr.cell? ⟨b', off' + k * 2 + 1, none⟩ = _ := (hB.cell (p := ⟨b', off' + k * 2 + 1, none⟩) (World.block_lt_of_cell? _ _ (hcell' k hltm).2)).trans (hcell' k hltm).2
        have hkc : k < c := by omega
        have hkc' : k < c' := by omega
        obtain ⟨t, ht⟩ : ∃ t, l[k] = t := ⟨_, rfl⟩
        obtain ⟨t', ht'⟩ : ∃ t', m[k] = t' := ⟨_, rfl⟩
        rw [ht] at g0 g1
        rw [ht'] at g0' g1'
        have ll := fun n => load42 (W := wr.drewN n) g0 g1
        have ll' := fun n => load42 (W := wr.drewN n) g0' g1'
        have heq := fun u => eq42 (tb t.1) (tb t.2) (tb t'.1) (tb t'.2) u
        rw [tb_eq, tb_eq] at heq
        have HE := Lib.hid (eqF_iff t t')
        obtain ⟨r, hr⟩ : ∃ r, eqF t t' = r := ⟨_, rfl⟩
        have hr' : (t.1 == t'.1 && t.2 == t'.2) = r := hr
        rw [hr'] at heq
        rw [hr] at HE
        have HT := Lib.hid ht
        have HT' := Lib.hid ht'
        clear hcell hcell' ht ht' hr hr' ll ll'
        generalize tb t.1 = X at g0 heq
        generalize tb t.2 = Y at g1 heq
        generalize tb t'.1 = X' at g0' heq
        generalize tb t'.2 = Y' at g1' heq
        cases r
        · have hn := Lib.hid (same_not l m k hlt hltm (by rw [HT.out, HT'.out]; exact fun e => by have := HE.out.2 e; cases this))
          go_wp2
          go_quiet (fail)
          have hB2 := Lib.hid (Path.drewN_below hB nq)
          generalize wr.drewN nq = W1 at hB2 ⊢
          go_wp2
          go_ret
          exact ⟨by rw [hn.out]; rfl, hB2.out⟩
        · have hn := Lib.hid (same_next l m k hlt hltm HA.out (by rw [HT.out, HT'.out]; exact HE.out.1 rfl))
          go_wp2
          go_quiet (fail)
          have hB2 := Path.drewN_below hB nq
          generalize wr.drewN nq = W1 at hB2 ⊢
          go_wp2
          go_roundw
          case rel => exact ⟨k + 1, by omega, by go_num, hn, hB2⟩
          case measure => simp [intOf]; omega
      · have hn := Lib.hid (same_all l m k HL.out hlt HA.out)
        go_wp2
        go_ret
        exact ⟨by rw [hn.out]; rfl, hB⟩
  · have q0 : ((l.length : Int) != (m.length : Int)) = true := by simp; omega
    have hn := Lib.hid (same_len l m hlen)
    go_enter Tryd.func13, Tryd.ntmps13
    go_wp2
    go_ret
    exact ⟨by rw [hn.out]; rfl, Below.refl _ _⟩

set_option maxRecDepth 100000 in
set_option maxHeartbeats 2000000 in
theorem equal_any (v u : Value) (l m : List F) (w : World) (h : Flds w v l) (h' : Flds w u m) :
    Calls Tryd.prog 42 #[v, u] w fun e w' => e = .returned (.bool (decide (l = m))) ∧ Below w.heap.size w w' := by
  obtain ⟨a, c, rfl, h1, h2, h3, h4⟩ := h
  obtain ⟨a', c', rfl, h1', h2', h3', h4'⟩ := h'
  unfold maxLen at h2 h2'
  have hl : l.length ≤ 9223372036854775807 := by omega
  have hl' : m.length ≤ 9223372036854775807 := by omega
  have H3 := Lib.hid h3
  have H4 := Lib.hid h4
  have H3' := Lib.hid h3'
  have H4' := Lib.hid h4'
  clear h3 h4 h3' h4'
  by_cases hlen : l.length = m.length
  · have q0 : ((l.length : Int) != (m.length : Int)) = false := by simp [hlen]
    have HL := Lib.hid hlen
    clear hlen
    go_enter Tryd.func42, Tryd.ntmps42
    go_wp2
    go_loopw [5, 13] (fun _ i wr => ∃ k : Nat, k ≤ l.length ∧ i = .int .i64 k ∧ Hid (l.take k = m.take k) ∧ Below w.heap.size w wr) (fun _ i _ => l.length - (intOf i).toNat)
    case atStart => exact ⟨0, Nat.zero_le _, rfl, Lib.hid rfl, Below.refl _ _⟩
    case round =>
      obtain ⟨k, hk, rfl, HA, hB⟩ := hrel
      by_cases hlt : k < l.length
      · have hltm : k < m.length := by rw [← HL.out]; exact hlt
        obtain ⟨b, off, rfl, hcell⟩ := H4.out (by intro e; rw [e] at hlt; simp at hlt)
        obtain ⟨b', off', rfl, hcell'⟩ := H4'.out (by intro e; rw [e] at hltm; simp at hltm)
        have g0 : wr.cell? ⟨b, off + k * 2, none⟩ = _ := (hB.cell (p := ⟨b, off + k * 2, none⟩) (World.block_lt_of_cell? _ _ (hcell k hlt).1)).trans (hcell k hlt).1
        have g1 : wr.cell? ⟨b, off + k * 2 + 1, none⟩ = _ := (hB.cell (p := ⟨b, off + k * 2 + 1, none⟩) (World.block_lt_of_cell? _ _ (hcell k hlt).2)).trans (hcell k hlt).2
        have g0' : wr.cell? ⟨b', off' + k * 2, none⟩ = _ := (hB.cell (p := ⟨b', off' + k * 2, none⟩) (World.block_lt_of_cell? _ _ (hcell' k hltm).1)).trans (hcell' k hltm).1
        have g1' : wr.cell? ⟨b', off' + k * 2 + 1, none⟩ = _ := (hB.cell (p := ⟨b', off' + k * 2 + 1, none⟩) (World.block_lt_of_cell? _ _ (hcell' k hltm).2)).trans (hcell' k hltm).2
        have hkc : k < c := by omega
        have hkc' : k < c' := by omega
        obtain ⟨t, ht⟩ : ∃ t, l[k] = t := ⟨_, rfl⟩
        obtain ⟨t', ht'⟩ : ∃ t', m[k] = t' := ⟨_, rfl⟩
        rw [ht] at g0 g1
        rw [ht'] at g0' g1'
        have ll := fun n => load42 (W := wr.drewN n) g0 g1
        have ll' := fun n => load42 (W := wr.drewN n) g0' g1'
        have heq := fun u => eq42 (tb t.1) (tb t.2) (tb t'.1) (tb t'.2) u
        rw [tb_eq, tb_eq] at heq
        have HE := Lib.hid (eqF_iff t t')
        obtain ⟨r, hr⟩ : ∃ r, eqF t t' = r := ⟨_, rfl⟩
        have hr' : (t.1 == t'.1 && t.2 == t'.2) = r := hr
        rw [hr'] at heq
        rw [hr] at HE
        have HT := Lib.hid ht
        have HT' := Lib.hid ht'
        clear hcell hcell' ht ht' hr hr' ll ll'
        generalize tb t.1 = X at g0 heq
        generalize tb t.2 = Y at g1 heq
        generalize tb t'.1 = X' at g0' heq
        generalize tb t'.2 = Y' at g1' heq
        cases r
        · have hn := Lib.hid (same_not l m k hlt hltm (by rw [HT.out, HT'.out]; exact fun e => by have := HE.out.2 e; cases this))
          go_wp2
          go_quiet (fail)
          have hB2 := Lib.hid (Path.drewN_below hB nq)
          generalize wr.drewN nq = W1 at hB2 ⊢
          go_wp2
          go_ret
          exact ⟨by rw [hn.out]; rfl, hB2.out⟩
        · have hn := Lib.hid (same_next l m k hlt hltm HA.out (by rw [HT.out, HT'.out]; exact HE.out.1 rfl))
          go_wp2
          go_quiet (fail)
          have hB2 := Path.drewN_below hB nq
          generalize wr.drewN nq = W1 at hB2 ⊢
          go_wp2
          go_roundw
          case rel => exact ⟨k + 1, by omega, by go_num, hn, hB2⟩
          case measure => simp [intOf]; omega
      · have hn := Lib.hid (same_all l m k HL.out hlt HA.out)
        go_wp2
        go_ret
        exact ⟨by rw [hn.out]; rfl, hB⟩
  · have q0 : ((l.length : Int) != (m.length : Int)) = true := by simp; omega
    have hn := Lib.hid (same_len l m hlen)
    go_enter Tryd.func42, Tryd.ntmps42
    go_wp2
    go_ret
    exact ⟨by rw [hn.out]; rfl, Below.refl _ _⟩

set_option maxHeartbeats 1000000 in
theorem same_any (v u : Value) (l m : List F) (w : World) (h : Flds w v l) (h' : Flds w u m) :
    Calls Tryd.prog 25 #[v, u] w fun e w' => e = .returned (.bool (decide (l = m))) ∧ Below w.heap.size w w' := by
  have he := equal_any v u l m w h h'
  obtain ⟨a, c, rfl, -⟩ := h
  obtain ⟨a', c', rfl, -⟩ := h'
  go_enter Tryd.func25, Tryd.ntmps25
  go_wp2_with fail
  refine he.mono ?_
  rintro e w1 ⟨rfl, hB⟩
  go_wp2
  go_ret
  exact ⟨rfl, hB⟩

end Go.Proofs.YtagmmdnfbjgmcaaDoor.Head
