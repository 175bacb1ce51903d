/-
  The iterator each(l): every segment, in order, and whether it is the last one, for every loop body.
-/
import Derived.Test.YtbofkmaajhfkeaaDoorPaBehind
import Derived.RangeFuncNested
import Derived.RangeFuncBound
import Derived.RangeFuncCalls
import Derived.RangeFuncLeaves
import Derived.RangeFuncBox
import Derived.OwnWalkIn
import Derived.TacticsInMore
import Derived.LoopNIn
import Derived.LoopIn
import Derived.Maps.AppendAt
namespace Go.Proofs.YtbofkmaajhfkeaaDoor.Path
open Go.RowKit Go.Shelf
set_option linter.unusedSimpArgs false
set_option linter.unusedVariables false
attribute [local go_sem] Oper.semAt_some

/-- Each with whether it is the last one. -/
def pairs (L : List T) : List (T × Bool) := L.mapIdx fun i s => (s, decide (i + 1 = L.length))
theorem pairs_len (L : List T) : (pairs L).length = L.length := by simp [pairs]
theorem pairs_get (L : List T) (k : Nat) (h : k < L.length) : (pairs L)[k]'(by rw [pairs_len]; exact h) = (L[k], decide (k + 1 = L.length)) := by simp [pairs]
theorem pairs_snoc (L : List T) (k : Nat) (h : k < L.length) : (pairs L).take (k + 1) = (pairs L).take k ++ [(L[k], decide (k + 1 = L.length))] := by
  rw [List.take_succ_eq_append_getElem (by rw [pairs_len]; exact h), pairs_get L k h]

/-- The box holds the slice, and that holds the texts. -/
def HeldL (Bs : Nat) (v : Value) (L : List T) (W : World) : Prop := W.cell? ⟨Bs, 0, none⟩ = some v ∧ Strs W v L
def KeepsL (Bs : Nat) (v : Value) (L : List T) (W W' : World) : Prop := HeldL Bs v L W → HeldL Bs v L W'
theorem keepsL_t {Bs : Nat} {v : Value} {L : List T} {A B C : World} (h : KeepsL Bs v L A B) (k : KeepsL Bs v L B C) : KeepsL Bs v L A C := fun x => k (h x)
theorem strs_kept {W W' : World} {v : Value} {L : List T} (h : Strs W v L) (hk : ∀ p u, W.cell? p = some u → W'.cell? p = some u) : Strs W' v L := by
  obtain ⟨a, c, rfl, h1, h2, h3, h4⟩ := h
  refine ⟨a, c, rfl, h1, h2, h3, fun hl => ?_⟩
  obtain ⟨b, off, rfl, hc⟩ := h4 hl
  exact ⟨b, off, rfl, fun j hj => hk _ _ (hc j hj)⟩
theorem keepsL_b {Bs : Nat} {v : Value} {L : List T} {w : World} (W : World) (l : Nat) (o o' : Obj) (_ : w.heap.size ≤ l) (h : W.heap[l]? = some o) (hc : o.isCells = false) (_ : o.isWalk = false) : KeepsL Bs v L W (W.putObj l o') := by
  have key : ∀ p u, W.cell? p = some u → (W.putObj l o').cell? p = some u := fun p u x => cell_kept x (grownBy_putObj' W l o') (fun r e => by cases e; exact ⟨o, h, hc⟩)
  exact fun x => ⟨key _ _ x.1, strs_kept x.2 key⟩
theorem HeldL.later {Bs : Nat} {v : Value} {L : List T} {W W' : World} (h : HeldL Bs v L W) (hB : Below W.heap.size W W') : HeldL Bs v L W' :=
  ⟨(hB.cell (p := ⟨Bs, 0, none⟩) (World.block_lt_of_cell? _ _ h.1)).trans h.1, h.2.later hB⟩

set_option maxRecDepth 100000 in
set_option maxHeartbeats 2000000 in
theorem each1_in (F : Fence) (n : Nat) (h37 : F.fn 37) (hro : F.round = none) (hn : 1 ≤ n) (l Bs : Nat) (v : Value) (L : List T) (J Jx : List (T × Bool) → World → Prop)
    (hs : ∀ t ∈ L, t.length ≤ 1000000)
    (hY : ∀ pre x W, x.1.length ≤ 1000000 → J pre W → pre.length < L.length → YieldAt F (n - 1) Tryd.prog l #[tx x.1, .bool x.2] W fun e W' =>
      (e = .returned (.bool true) ∧ J (pre ++ [x]) W' ∧ KeepsL Bs v L W W') ∨ (e = .returned (.bool false) ∧ Jx (pre ++ [x]) W'))
    (W : World) (hBs : HeldL Bs v L W) (h0 : J [] W) :
    CallsIn F n Tryd.prog 37 #[.func (.yield l) #[] #[], .pointer (some ⟨Bs, 0, none⟩)] W fun e W' => (∃ v, e = .returned v) ∧
      ((∃ ys, ys = pairs L ∧ J ys W') ∨ (∃ pre, pre <+: pairs L ∧ Jx pre W')) := by
  have hHeld := Lib.hid hBs
  obtain ⟨hbox, a, c, rfl, h1, h2, h3, h4⟩ := hBs
  clear h3 h4
  unfold maxLen at h2
  have hl : L.length ≤ 9223372036854775807 := by omega
  refine callsIn_of_wp Tryd.func37 rfl h37 ?_ hro
  simp only [Tryd.ntmps37, List.size_toArray, List.length_cons, List.length_nil, Nat.reduceAdd, Nat.reduceSub, Array.replicate_succ, Array.replicate_zero, List.push_toArray, List.append_toArray, List.nil_append, List.cons_append]
  gi_wp2
  clear hbox
  gi_loopw [7] (fun i wr => ∃ k : Nat, k ≤ L.length ∧ i = .int .i64 k ∧ J ((pairs L).take k) wr ∧ HeldL Bs (.slice a L.length c) L wr)
    (fun i _ => L.length - (intOf i).toNat)
  case atStart => exact ⟨0, Nat.zero_le _, rfl, h0, hHeld.out⟩
  case round =>
    obtain ⟨k, hk, rfl, hJs, hcx⟩ := hrel
    by_cases hlt : k < L.length
    · have hpl : ((pairs L).take k).length < L.length := by
        rw [List.length_take, pairs_len]; omega
      obtain ⟨b, off, rfl, hcell⟩ : ∃ b off, a = some ⟨b, off, none⟩ ∧ ∀ j (h : j < L.length), wr.cell? ⟨b, off + j, none⟩ = some (.string ⟨(L[j]).toArray⟩) := by
        obtain ⟨_, a', c', e, _, _, _, h4⟩ := hcx
        cases e
        exact h4 (by intro e; rw [e] at hlt; simp at hlt)
      have hbx := hcx.1
      have hHx := Lib.hid hcx
      have g := hcell k hlt
      have hkc : k < c := by omega
      have hnext := Lib.hid (pairs_snoc L k hlt)
      obtain ⟨q, hq⟩ : ∃ q, decide (k + 1 = L.length) = q := ⟨_, rfl⟩
      have qe : ((k : Int) == (L.length : Int) - 1) = q := by
        rw [← hq, Bool.eq_iff_iff]
        simp
        omega
      rw [hq] at hnext
      have hts := hs _ (List.getElem_mem hlt)
      obtain ⟨t, ht⟩ : ∃ t, L[k] = t := ⟨_, rfl⟩
      rw [ht] at g hnext hts
      obtain ⟨fn, tmps, assign, body, hy, hR⟩ := hY _ (t, q) wr hts hJs hpl
      simp only [tx] at hy
      clear hcell hpl hcx hq ht
      gi_wp2
      refine hR.mono ?_
      rintro e W3 (⟨rfl, hJ3, hk3⟩ | ⟨rfl, hJx3⟩)
      · gi_wp2
        go_roundw
        case rel => exact ⟨k + 1, by omega, by simp, by rw [hnext.out]; exact hJ3, hk3 hHx.out⟩
        case measure => simp [intOf]; omega
      · gi_wp2
        refine bodyPost_ret (results_none rfl _ _ _) rfl ?_
        exact ⟨⟨_, rfl⟩, .inr ⟨_, by rw [← hnext.out]; exact List.take_prefix _ _, hJx3⟩⟩
    · obtain rfl : k = L.length := by omega
      gi_wp2
      go_end0
      exact ⟨⟨_, rfl⟩, .inl ⟨_, by rw [List.take_of_length_le (by rw [pairs_len]; exact Nat.le_refl _)], hJs⟩⟩

set_option maxHeartbeats 1000000 in
theorem each_in (F : Fence) (n : Nat) (h25 : F.fn 25) (hro : F.round = none) (a : Option Addr) (k c : Nat) (w : World) :
    CallsIn F n Tryd.prog 25 #[.slice a k c] w fun e w' => e = .returned (.func (.func 37) #[] #[.pointer (some ⟨w.heap.size, 0, none⟩)]) ∧ w.alloc (.cells #[.slice a k c] 22) = w' := by
  refine callsIn_of_wp Tryd.func25 rfl h25 ?_ hro
  simp only [Tryd.ntmps25, List.size_toArray, List.length_cons, List.length_nil, Nat.reduceAdd, Nat.reduceSub, Array.replicate_succ, Array.replicate_zero, List.push_toArray, List.append_toArray, List.nil_append, List.cons_append]
  gi_wp2
  go_ret
  exact ⟨rfl, rfl⟩

/-- A segment of a size that can be borne, and whether it is the last one. -/
abbrev Seg := { x : T × Bool // x.1.length ≤ 1000000 }
def vals (ps : List Seg) : List (T × Bool) := ps.map (·.1)
theorem vals_snoc (ps : List Seg) (x : Seg) : vals (ps ++ [x]) = vals ps ++ [x.1] := by simp [vals]
theorem each_stops (F : Fence) (n : Nat) (h37 : F.fn 37) (hro : F.round = none) (hn : 1 ≤ n) (Bs : Nat) (v : Value) (L : List T) (hs : ∀ t ∈ L, t.length ≤ 1000000) (w : World) (hH : HeldL Bs v L w) :
    SeqStopsK F n Tryd.prog 37 #[.pointer (some ⟨Bs, 0, none⟩)] (fun x : Seg => #[tx x.1.1, .bool x.1.2]) (KeepsL Bs v L) (fun ys => vals ys = pairs L) (fun pre => vals pre <+: pairs L) L.length w := by
  intro l J Jx W hW _ _ hY h0
  refine (each1_in F n h37 hro hn l Bs v L (fun ps W => ∃ qs, vals qs = ps ∧ J qs W) (fun ps W => ∃ qs, vals qs = ps ∧ Jx qs W) hs ?_ W (hH.later hW) ⟨[], rfl, h0⟩).mono ?_
  · rintro pre x W1 hx ⟨qs, rfl, hJ⟩ hlt
    obtain ⟨fn, tmps, assign, body, hy, hR⟩ := hY qs ⟨x, hx⟩ W1 hJ (by simpa [vals] using hlt)
    refine ⟨fn, tmps, assign, body, hy, hR.mono ?_⟩
    rintro e W' (⟨rfl, hJ', hk⟩ | ⟨rfl, hJ'⟩)
    · exact .inl ⟨rfl, ⟨_, vals_snoc _ _, hJ'⟩, hk⟩
    · exact .inr ⟨rfl, _, vals_snoc _ _, hJ'⟩
  · rintro e W' ⟨he, ⟨ys, rfl, qs, hq, hJ⟩ | ⟨pre, hp, qs, rfl, hJ⟩⟩
    · exact ⟨he, .inl ⟨qs, hq, hJ⟩⟩
    · exact ⟨he, .inr ⟨qs, hp, hJ⟩⟩

end Go.Proofs.YtbofkmaajhfkeaaDoor.Path
