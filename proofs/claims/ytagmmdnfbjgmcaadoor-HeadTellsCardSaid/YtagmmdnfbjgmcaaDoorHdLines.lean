/-
  The iterator lines(raw): what stands ahead of the end of each line, and whether that end is there.
-/
import Derived.RangeFuncNested
import Derived.RangeFuncBound
import Derived.RangeFuncCalls
import Derived.RangeFuncLeaves
import Derived.RangeFuncBox
import Derived.OwnWalkIn
import Derived.TacticsInMore
import Derived.LoopNIn
import Derived.LoopIn
import Derived.Maps.AppendAt
import Derived.Test.YtagmmdnfbjgmcaaDoorHdGet
namespace Go.Proofs.YtagmmdnfbjgmcaaDoor.Head
set_option linter.unusedSimpArgs false
set_option linter.unusedVariables false
set_option maxRecDepth 100000


open Go.RowKit Go.Shelf

open Url

open Path (Strs tx infoText MaxAt)

attribute [local go_sem] Oper.semAt_some

/-- MaxLen is as it was. -/
def KeepsM (m : Int) (W W' : World) : Prop := MaxAt m W → MaxAt m W'

theorem keepsM_t {m : Int} {A B C : World} (h : KeepsM m A B) (k : KeepsM m B C) : KeepsM m A C := fun x => k (h x)

theorem keepsM_b {m : Int} {w : World} (W : World) (l : Nat) (o o' : Obj) (_ : w.heap.size ≤ l) (h : W.heap[l]? = some o) (hc : o.isCells = false) (_ : o.isWalk = false) : KeepsM m W (W.putObj l o') :=
  fun x => cell_kept x (grownBy_putObj' W l o') (fun r e => by cases e; exact ⟨o, h, hc⟩)

def leftL : Value → Nat
  | .string b => b.size
  | _ => 0

theorem empty_tb (R : T) : (tb R).toList.isEmpty = R.isEmpty := by rw [tb_toList]

set_option maxRecDepth 100000 in
set_option maxHeartbeats 2000000 in
theorem lines1_in (F : Fence) (n : Nat) (h41 : F.fn 48) (h42 : F.fn 49) (hro : F.round = none) (hn : 1 ≤ n) (l Bs : Nat) (s : T) (hs : s.length ≤ 1000000) (m : Int) (J Jx : List (T × Bool) → World → Prop)
    (hcut : ∀ (R : T) (W : World), R.length ≤ 1000000 → MaxAt m W → CallsIn F (n - 1) Tryd.prog 49 #[.string (tb R), .string ⟨#[13, 10]⟩] W fun e W' => e = .returned (.tuple #[.string (tb (Lib.cut R [13, 10]).1), .string (tb (Lib.cut R [13, 10]).2.1), .bool (Lib.cut R [13, 10]).2.2]) ∧ ∃ n, W' = W.drewN n)
    (hJd : ∀ pre W q, J pre W → J pre (W.drewN q))
    (hY : ∀ pre x W, x.1.length ≤ 1000000 → J pre W → pre.length < (linesL s).length → YieldAt F (n - 1) Tryd.prog l #[.string (tb x.1), .bool x.2] W fun e W' =>
      (e = .returned (.bool true) ∧ J (pre ++ [x]) W' ∧ KeepsM m W W') ∨ (e = .returned (.bool false) ∧ Jx (pre ++ [x]) W'))
    (W : World) (hBs : W.cell? ⟨Bs, 0, none⟩ = some (.string (tb s))) (hm : MaxAt m W) (h0 : J [] W) :
    CallsIn F n Tryd.prog 48 #[.func (.yield l) #[] #[], .pointer (some ⟨Bs, 0, none⟩)] W fun e W' => (∃ v, e = .returned v) ∧
      ((∃ ys, ys = linesL s ∧ J ys W') ∨ (∃ pre, pre <+: linesL s ∧ Jx pre W')) := by
  refine callsIn_of_wp Tryd.func48 rfl h41 ?_ hro
  simp only [Tryd.ntmps48, List.size_toArray, List.length_cons, List.length_nil, Nat.reduceAdd, Nat.reduceSub, Array.replicate_succ, Array.replicate_zero, List.push_toArray, List.append_toArray, List.nil_append, List.cons_append]
  gi_wp2
  clear hBs
  gi_loopw [3, 4, 5, 6] (fun r _ _ _ wr => ∃ (pre : List (T × Bool)) (R : T), r = .string (tb R) ∧ R.length ≤ 1000000 ∧ J pre wr ∧ MaxAt m wr ∧ Hid (linesL s = pre ++ linesL R))
    (fun r _ _ _ _ => leftL r)
  case atStart => exact ⟨[], s, rfl, hs, h0, hm, Lib.hid rfl⟩
  case round =>
    obtain ⟨pre, R, rfl, hR, hJs, hmr, HSP⟩ := hrel
    have he := empty_tb R
    by_cases hR0 : R = []
    · have hend := Lib.hid (show pre = linesL s by rw [HSP.out, hR0, lines_nil, List.append_nil])
      have he' : (tb R).toList.isEmpty = true := by rw [he, hR0]; rfl
      clear he hR0
      generalize tb R = X at he' ⊢
      gi_wp2
      go_end0
      exact ⟨⟨_, rfl⟩, .inl ⟨_, hend.out, hJs⟩⟩
    · have hc := hcut R wr hR hmr
      have hl := lines_cons R hR0
      have hless : (Lib.cut R [13, 10]).2.1.length < R.length := by
        cases R with
        | nil => exact absurd rfl hR0
        | cons c t => exact cut_less c t
      have hx1 : (Lib.cut R [13, 10]).1.length ≤ 1000000 := by
        rcases parted2 R with h | ⟨a, r, h, hf⟩
        · rw [cut_none h]; exact hR
        · rw [h, cut_end hf]; rw [h] at hR; simp at hR ⊢; omega
      have he' : (tb R).toList.isEmpty = false := by rw [he]; cases R <;> simp_all
      have hszR := tb_size R
      obtain ⟨x, b, e⟩ : ∃ x b, x = (Lib.cut R [13, 10]).1 ∧ b = (Lib.cut R [13, 10]).2.2 := ⟨_, _, rfl, rfl⟩
      obtain ⟨r, hr⟩ : ∃ r, r = (Lib.cut R [13, 10]).2.1 := ⟨_, rfl⟩
      rw [← e.1, ← e.2, ← hr] at hc hl
      rw [← hr] at hless
      rw [← e.1] at hx1
      have hsp' := Lib.hid (show linesL s = (pre ++ [(x, b)]) ++ linesL r by rw [HSP.out, hl]; simp)
      have hpl : pre.length < (linesL s).length := by rw [hsp'.out]; simp
      have hM := Lib.hid (show leftL (.string (tb r)) < leftL (.string (tb R)) from hless)
      clear he hl e hr HSP hR0
      generalize tb R = X at hc he' hszR hM ⊢
      gi_wp2_with fail
      refine hc.mono ?_
      rintro e W1 ⟨rfl, q, rfl⟩
      have hmq : MaxAt m (wr.drewN q) := hmr
      obtain ⟨fn, tmps, assign, body, hy, hYR⟩ := hY pre (x, b) (wr.drewN q) hx1 (hJd _ _ _ hJs) hpl
      gi_wp2
      refine hYR.mono ?_
      rintro e W3 (⟨rfl, hJ3, hk3⟩ | ⟨rfl, hJx3⟩)
      · gi_wp2
        go_roundw
        case rel => exact ⟨pre ++ [(x, b)], r, rfl, by omega, hJ3, hk3 hmq, hsp'⟩
        case measure => exact hM.out
      · gi_wp2
        refine bodyPost_ret (results_none rfl _ _ _) rfl ?_
        exact ⟨⟨_, rfl⟩, .inr ⟨_, by rw [hsp'.out]; exact List.prefix_append _ _, hJx3⟩⟩

theorem cut_in (R : T) (hR : R.length ≤ 1000000) (m : Int) (W : World) (hm : MaxAt m W) (n : Nat) :
    CallsIn Fence.wide n Tryd.prog 49 #[.string (tb R), .string ⟨#[13, 10]⟩] W fun e W' => e = .returned (.tuple #[.string (tb (Lib.cut R [13, 10]).1), .string (tb (Lib.cut R [13, 10]).2.1), .bool (Lib.cut R [13, 10]).2.2]) ∧ ∃ n, W' = W.drewN n := by
  refine callsIn_wide.2 ?_
  have h := Tryd.strings_Cut (tb R) ⟨#[13, 10]⟩ m W (by rw [tb_size]; omega) hm
  rw [tb_list] at h
  exact h

set_option maxHeartbeats 1000000 in
theorem lines_in (F : Fence) (n : Nat) (h30 : F.fn 30) (hro : F.round = none) (s : ByteArray) (w : World) :
    CallsIn F n Tryd.prog 30 #[.string s] w fun e w' => e = .returned (.func (.func 48) #[] #[.pointer (some ⟨w.heap.size, 0, none⟩)]) ∧ w.alloc (.cells #[.string s] 9) = w' := by
  refine callsIn_of_wp Tryd.func30 rfl h30 ?_ hro
  simp only [Tryd.ntmps30, List.size_toArray, List.length_cons, List.length_nil, Nat.reduceAdd, Nat.reduceSub, Array.replicate_succ, Array.replicate_zero, List.push_toArray, List.append_toArray, List.nil_append, List.cons_append]
  gi_wp2
  go_ret
  exact ⟨rfl, rfl⟩

/-- A line of a size that can be borne, and whether it has its end. -/
abbrev Line := { x : T × Bool // x.1.length ≤ 1000000 }

def lvals (ps : List Line) : List (T × Bool) := ps.map (·.1)

theorem lvals_snoc (ps : List Line) (x : Line) : lvals (ps ++ [x]) = lvals ps ++ [x.1] := by simp [lvals]

theorem grown_drewN (W : World) (q : Nat) : W.grownBy (W.drewN q) none := ⟨rfl, rfl, rfl, Nat.le_refl _, fun _ _ _ => rfl⟩

theorem lines_stops (n : Nat) (hn : 1 ≤ n) (Bs : Nat) (s : T) (hs : s.length ≤ 1000000) (m : Int) (w : World) (hm : MaxAt m w) (hb : w.cell? ⟨Bs, 0, none⟩ = some (.string (tb s))) :
    SeqStopsK Fence.wide n Tryd.prog 48 #[.pointer (some ⟨Bs, 0, none⟩)] (fun x : Line => #[.string (tb x.1.1), .bool x.1.2]) (KeepsM m) (fun ys => lvals ys = linesL s) (fun pre => lvals pre <+: linesL s) (linesL s).length w := by
  intro l J Jx W hW hA _ hY h0
  refine (lines1_in Fence.wide n trivial trivial rfl hn l Bs s hs m (fun ps W => ∃ qs, lvals qs = ps ∧ J qs W) (fun ps W => ∃ qs, lvals qs = ps ∧ Jx qs W) (fun R W' hR hm' => cut_in R hR m W' hm' _) ?_ ?_ W
    ((hW.cell (p := ⟨Bs, 0, none⟩) (World.block_lt_of_cell? _ _ hb)).trans hb) (hm.later hW) ⟨[], rfl, h0⟩).mono ?_
  · rintro pre W1 q ⟨qs, rfl, hJ⟩
    exact ⟨qs, rfl, hA qs W1 _ none hJ (grown_drewN W1 q) (fun r e => by cases e)⟩
  · rintro pre x W1 hx ⟨qs, rfl, hJ⟩ hlt
    obtain ⟨fn, tmps, assign, body, hy, hR⟩ := hY qs ⟨x, hx⟩ W1 hJ (by simpa [lvals] using hlt)
    refine ⟨fn, tmps, assign, body, hy, hR.mono ?_⟩
    rintro e W' (⟨rfl, hJ', hk⟩ | ⟨rfl, hJ'⟩)
    · exact .inl ⟨rfl, ⟨_, lvals_snoc _ _, hJ'⟩, hk⟩
    · exact .inr ⟨rfl, _, lvals_snoc _ _, hJ'⟩
  · rintro e W' ⟨he, ⟨ys, rfl, qs, hq, hJ⟩ | ⟨pre, hp, qs, rfl, hJ⟩⟩
    · exact ⟨he, .inl ⟨qs, hq, hJ⟩⟩
    · exact ⟨he, .inr ⟨qs, hp, hJ⟩⟩

end Go.Proofs.YtagmmdnfbjgmcaaDoor.Head
