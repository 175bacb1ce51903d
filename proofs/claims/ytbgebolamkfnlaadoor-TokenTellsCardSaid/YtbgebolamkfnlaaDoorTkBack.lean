/-
  slices.Backward of texts as an iterator: each with its place, from the end.
-/
import Derived.RangeFuncNested
import Derived.RangeFuncBound
import Derived.RangeFuncCalls
import Derived.RangeFuncLeaves
import Derived.RangeFuncBox
import Derived.OwnWalkIn
import Derived.TacticsInMore
import Derived.LoopNIn
import Derived.LoopIn
import Derived.Maps.AppendAt
import Derived.Test.YtbgebolamkfnlaaDoorTkSplit
namespace Go.Proofs.YtbgebolamkfnlaaDoor.Token
set_option linter.unusedSimpArgs false
set_option linter.unusedVariables false
set_option maxRecDepth 100000


open Go.RowKit Go.Shelf

open Url

open Path (Strs tx MaxAt)

open Head (F tb tb_of tb_list tb_toList tb_size Flds FAt trimB trim_any trim_len)

attribute [local go_sem] Oper.semAt_some

/-- Each with its place, from the end. -/
def revs (L : List T) : List (Nat × T) := (L.mapIdx fun i t => (i, t)).reverse

theorem revs_len (L : List T) : (revs L).length = L.length := by simp [revs]

theorem revs_get (L : List T) (j k : Nat) (h : k < L.length) (hj : j + k + 1 = L.length) : (revs L)[j]'(by rw [revs_len]; omega) = (k, L[k]) := by
  unfold revs
  rw [List.getElem_reverse]
  obtain rfl : k = L.length - 1 - j := by omega
  simp

theorem revs_snoc (L : List T) (j k : Nat) (h : k < L.length) (hj : j + k + 1 = L.length) : (revs L).take (j + 1) = (revs L).take j ++ [(k, L[k])] := by
  rw [List.take_succ_eq_append_getElem (by rw [revs_len]; omega), revs_get L j k h hj]

theorem revs_snd (L : List T) : (revs L).map (·.2) = L.reverse := by
  unfold revs
  rw [List.map_reverse]
  congr 1
  apply List.ext_getElem?
  intro i
  simp
  cases L[i]? <;> rfl

/-- The box holds the slice, and that holds the texts. -/
def HeldL (Bs : Nat) (v : Value) (L : List T) (W : World) : Prop := W.cell? ⟨Bs, 0, none⟩ = some v ∧ Strs W v L

def KeepsL (Bs : Nat) (v : Value) (L : List T) (W W' : World) : Prop := HeldL Bs v L W → HeldL Bs v L W'

theorem keepsL_t {Bs : Nat} {v : Value} {L : List T} {A B C : World} (h : KeepsL Bs v L A B) (k : KeepsL Bs v L B C) : KeepsL Bs v L A C := fun x => k (h x)

theorem strs_kept {W W' : World} {v : Value} {L : List T} (h : Strs W v L) (hk : ∀ p u, W.cell? p = some u → W'.cell? p = some u) : Strs W' v L := by
  obtain ⟨a, c, rfl, h1, h2, h3, h4⟩ := h
  refine ⟨a, c, rfl, h1, h2, h3, fun hl => ?_⟩
  obtain ⟨b, off, rfl, hc⟩ := h4 hl
  exact ⟨b, off, rfl, fun j hj => hk _ _ (hc j hj)⟩

theorem keepsL_b {Bs : Nat} {v : Value} {L : List T} {w : World} (W : World) (l : Nat) (o o' : Obj) (_ : w.heap.size ≤ l) (h : W.heap[l]? = some o) (hc : o.isCells = false) (_ : o.isWalk = false) : KeepsL Bs v L W (W.putObj l o') := by
  have key : ∀ p u, W.cell? p = some u → (W.putObj l o').cell? p = some u := fun p u x => cell_kept x (grownBy_putObj' W l o') (fun r e => by cases e; exact ⟨o, h, hc⟩)
  exact fun x => ⟨key _ _ x.1, strs_kept x.2 key⟩

theorem HeldL.later {Bs : Nat} {v : Value} {L : List T} {W W' : World} (h : HeldL Bs v L W) (hB : Below W.heap.size W W') : HeldL Bs v L W' :=
  ⟨(hB.cell (p := ⟨Bs, 0, none⟩) (World.block_lt_of_cell? _ _ h.1)).trans h.1, h.2.later hB⟩

set_option maxRecDepth 100000 in
set_option maxHeartbeats 2000000 in
theorem back1_in (F : Fence) (n : Nat) (h62 : F.fn 62) (hro : F.round = none) (hn : 1 ≤ n) (l Bs : Nat) (v : Value) (L : List T) (J Jx : List (Nat × T) → World → Prop)
    (hs : ∀ t ∈ L, t.length ≤ 1000000)
    (hY : ∀ pre x W, x.2.length ≤ 1000000 → J pre W → pre.length < L.length → YieldAt F (n - 1) Tryd.prog l #[.int .i64 (x.1 : Nat), .string (tb x.2)] W fun e W' =>
      (e = .returned (.bool true) ∧ J (pre ++ [x]) W' ∧ KeepsL Bs v L W W') ∨ (e = .returned (.bool false) ∧ Jx (pre ++ [x]) W'))
    (W : World) (hBs : HeldL Bs v L W) (h0 : J [] W) :
    CallsIn F n Tryd.prog 62 #[.func (.yield l) #[] #[], .pointer (some ⟨Bs, 0, none⟩)] W fun e W' => (∃ v, e = .returned v) ∧
      ((∃ ys, ys = revs L ∧ J ys W') ∨ (∃ pre, pre <+: revs L ∧ Jx pre W')) := by
  have hHeld := Lib.hid hBs
  obtain ⟨hbox, a, c, rfl, h1, h2, h3, h4⟩ := hBs
  clear h3 h4
  unfold maxLen at h2
  have hl : L.length ≤ 9223372036854775807 := by omega
  refine callsIn_of_wp Tryd.func62 rfl h62 ?_ hro
  simp only [Tryd.ntmps62, List.size_toArray, List.length_cons, List.length_nil, Nat.reduceAdd, Nat.reduceSub, Array.replicate_succ, Array.replicate_zero, List.push_toArray, List.append_toArray, List.nil_append, List.cons_append]
  gi_wp2
  clear hbox
  gi_loopw [3] (fun i wr => ∃ j : Nat, j ≤ L.length ∧ i = .int .i64 ((L.length : Int) - 1 - j) ∧ J ((revs L).take j) wr ∧ HeldL Bs (.slice a L.length c) L wr)
    (fun i _ => (intOf i + 1).toNat)
  case atStart => exact ⟨0, Nat.zero_le _, by simp, h0, hHeld.out⟩
  case round =>
    obtain ⟨j, hj, rfl, hJs, hcx⟩ := hrel
    by_cases hlt : j < L.length
    · obtain ⟨k, hk⟩ : ∃ k : Nat, (L.length : Int) - 1 - j = k := ⟨L.length - 1 - j, by omega⟩
      have hkl : k < L.length := by omega
      have hjk : j + k + 1 = L.length := by omega
      have hpl : ((revs L).take j).length < L.length := by
        rw [List.length_take, revs_len]; omega
      obtain ⟨b, off, rfl, hcell⟩ : ∃ b off, a = some ⟨b, off, none⟩ ∧ ∀ j (h : j < L.length), wr.cell? ⟨b, off + j, none⟩ = some (.string ⟨(L[j]).toArray⟩) := by
        obtain ⟨_, a', c', e, _, _, _, h4⟩ := hcx
        cases e
        exact h4 (by intro e; rw [e] at hlt; simp at hlt)
      have hbx := hcx.1
      have hHx := Lib.hid hcx
      have g := hcell k hkl
      have hkc : k < c := by omega
      have hnext := Lib.hid (revs_snoc L j k hkl hjk)
      have q1 : decide ((0 : Int) ≤ (k : Int)) = true := decide_eq_true (by omega)
      have hts := hs _ (List.getElem_mem hkl)
      obtain ⟨t, ht⟩ : ∃ t, L[k] = t := ⟨_, rfl⟩
      rw [ht] at g hnext hts
      have g' : wr.cell? ⟨b, off + k, none⟩ = some (.string (tb t)) := g
      obtain ⟨fn, tmps, assign, body, hy, hR⟩ := hY _ (k, t) wr hts hJs hpl
      simp only at hy
      have HK := Lib.hid hk
      have HJK := Lib.hid hjk
      rw [hk]
      clear hcell hpl hcx ht g hk hjk
      generalize tb t = X at g' hy
      gi_wp2
      refine hR.mono ?_
      rintro e W3 (⟨rfl, hJ3, hk3⟩ | ⟨rfl, hJx3⟩)
      · gi_wp2
        have hjk := HJK.out
        go_roundw
        case rel => exact ⟨j + 1, by omega, by congr 1; omega, by rw [hnext.out]; exact hJ3, hk3 hHx.out⟩
        case measure => simp [intOf]
      · gi_wp2
        refine bodyPost_ret (results_none rfl _ _ _) rfl ?_
        exact ⟨⟨_, rfl⟩, .inr ⟨_, by rw [← hnext.out]; exact List.take_prefix _ _, hJx3⟩⟩
    · obtain rfl : j = L.length := by omega
      have q1 : decide ((0 : Int) ≤ (L.length : Int) - 1 - (L.length : Int)) = false := decide_eq_false (by omega)
      gi_wp2
      go_end0
      exact ⟨⟨_, rfl⟩, .inl ⟨_, by rw [List.take_of_length_le (by rw [revs_len]; exact Nat.le_refl _)], hJs⟩⟩

set_option maxHeartbeats 1000000 in
theorem back_in (F : Fence) (n : Nat) (h48 : F.fn 48) (hro : F.round = none) (a : Option Addr) (k c : Nat) (w : World) :
    CallsIn F n Tryd.prog 48 #[.slice a k c] w fun e w' => e = .returned (.func (.func 62) #[] #[.pointer (some ⟨w.heap.size, 0, none⟩)]) ∧ w.alloc (.cells #[.slice a k c] 26) = w' := by
  refine callsIn_of_wp Tryd.func48 rfl h48 ?_ hro
  simp only [Tryd.ntmps48, List.size_toArray, List.length_cons, List.length_nil, Nat.reduceAdd, Nat.reduceSub, Array.replicate_succ, Array.replicate_zero, List.push_toArray, List.append_toArray, List.nil_append, List.cons_append]
  gi_wp2
  go_ret
  exact ⟨rfl, rfl⟩

/-- A text of a size that can be borne, and its place. -/
abbrev Item := { x : Nat × T // x.2.length ≤ 1000000 }

def vals (ps : List Item) : List (Nat × T) := ps.map (·.1)

theorem vals_snoc (ps : List Item) (x : Item) : vals (ps ++ [x]) = vals ps ++ [x.1] := by simp [vals]

theorem back_stops (F : Fence) (n : Nat) (h62 : F.fn 62) (hro : F.round = none) (hn : 1 ≤ n) (Bs : Nat) (v : Value) (L : List T) (hs : ∀ t ∈ L, t.length ≤ 1000000) (w : World) (hH : HeldL Bs v L w) :
    SeqStopsK F n Tryd.prog 62 #[.pointer (some ⟨Bs, 0, none⟩)] (fun x : Item => #[.int .i64 (x.1.1 : Nat), .string (tb x.1.2)]) (KeepsL Bs v L) (fun ys => vals ys = revs L) (fun pre => vals pre <+: revs L) L.length w := by
  intro l J Jx W hW _ _ hY h0
  refine (back1_in F n h62 hro hn l Bs v L (fun ps W => ∃ qs, vals qs = ps ∧ J qs W) (fun ps W => ∃ qs, vals qs = ps ∧ Jx qs W) hs ?_ W (hH.later hW) ⟨[], rfl, h0⟩).mono ?_
  · rintro pre x W1 hx ⟨qs, rfl, hJ⟩ hlt
    obtain ⟨fn, tmps, assign, body, hy, hR⟩ := hY qs ⟨x, hx⟩ W1 hJ (by simpa [vals] using hlt)
    refine ⟨fn, tmps, assign, body, hy, hR.mono ?_⟩
    rintro e W' (⟨rfl, hJ', hk⟩ | ⟨rfl, hJ'⟩)
    · exact .inl ⟨rfl, ⟨_, vals_snoc _ _, hJ'⟩, hk⟩
    · exact .inr ⟨rfl, _, vals_snoc _ _, hJ'⟩
  · rintro e W' ⟨he, ⟨ys, rfl, qs, hq, hJ⟩ | ⟨pre, hp, qs, rfl, hJ⟩⟩
    · exact ⟨he, .inl ⟨qs, hq, hJ⟩⟩
    · exact ⟨he, .inr ⟨qs, hp, hJ⟩⟩

end Go.Proofs.YtbgebolamkfnlaaDoor.Token
