/-
  The iterator parts(s): what stands ahead of, between, and behind the slashes, in order; a clone of a slice of texts.
-/
import Derived.Test.YtbofkmaajhfkeaaDoorPaNorm
namespace Go.Proofs.YtbofkmaajhfkeaaDoor.Path
open Go.RowKit Go.Shelf
set_option linter.unusedSimpArgs false
set_option linter.unusedVariables false
attribute [local go_sem] Oper.semAt_some

theorem index_at (a r : T) (h : (47 : UInt8) ∉ a) : Lib.index (a ++ 47 :: r) [47] = (a.length : Int) := by
  induction a with
  | nil => simp [Lib.index]
  | cons c a ih =>
    simp only [List.mem_cons, not_or] at h
    rw [List.cons_append, Lib.index, ih h.2]
    rw [if_neg (by simp [List.isPrefixOf]; exact h.1), if_neg (by simp)]
    simp
theorem index_no (l : T) (h : (47 : UInt8) ∉ l) : Lib.index l [47] = -1 := by
  induction l with
  | nil => simp [Lib.index]
  | cons c a ih =>
    simp only [List.mem_cons, not_or] at h
    rw [Lib.index, ih h.2, if_neg (by simp [List.isPrefixOf]; exact h.1), if_pos (by rfl)]
theorem cut_at (a r : T) (h : (47 : UInt8) ∉ a) : Lib.cut (a ++ 47 :: r) [47] = (a, r, true) := by
  unfold Lib.cut
  rw [index_at a r h, if_pos (by omega)]
  simp
theorem cut_no (l : T) (h : (47 : UInt8) ∉ l) : Lib.cut l [47] = (l, [], false) := by
  unfold Lib.cut
  rw [index_no l h, if_neg (by omega)]

/-- MaxLen is as it was. -/
def KeepsM (m : Int) (W W' : World) : Prop := MaxAt m W → MaxAt m W'
theorem keepsM_t {m : Int} {A B C : World} (h : KeepsM m A B) (k : KeepsM m B C) : KeepsM m A C := fun x => k (h x)
theorem keepsM_b {m : Int} {w : World} (W : World) (l : Nat) (o o' : Obj) (_ : w.heap.size ≤ l) (h : W.heap[l]? = some o) (hc : o.isCells = false) (_ : o.isWalk = false) : KeepsM m W (W.putObj l o') :=
  fun x => cell_kept x (grownBy_putObj' W l o') (fun r e => by cases e; exact ⟨o, h, hc⟩)

/-- What is left to hand on, told as a number. -/
def leftN : Value → Value → Nat
  | .string b, .bool true => b.size + 1
  | _, _ => 0
theorem leftN_true (R : T) : leftN (.string ⟨R.toArray⟩) (.bool true) = R.length + 1 := rfl
theorem leftN_false (R : Value) : leftN R (.bool false) = 0 := by unfold leftN; split <;> simp_all

set_option maxRecDepth 100000 in
set_option maxHeartbeats 2000000 in
theorem parts1_in (F : Fence) (n : Nat) (h41 : F.fn 41) (h42 : F.fn 42) (hro : F.round = none) (hn : 1 ≤ n) (l Bs : Nat) (s : T) (hs : s.length ≤ 1000000) (m : Int) (J Jx : List T → World → Prop)
    (hcut : ∀ (R : T) (W : World), R.length ≤ 1000000 → MaxAt m W → CallsIn F (n - 1) Tryd.prog 42 #[.string ⟨R.toArray⟩, .string ⟨#[47]⟩] W fun e W' => e = .returned (.tuple #[.string ⟨(Lib.cut R [47]).1.toArray⟩, .string ⟨(Lib.cut R [47]).2.1.toArray⟩, .bool (Lib.cut R [47]).2.2]) ∧ ∃ n, W' = W.drewN n)
    (hJd : ∀ pre W q, J pre W → J pre (W.drewN q))
    (hY : ∀ pre x W, x.length ≤ 1000000 → J pre W → pre.length < (split s).length → YieldAt F (n - 1) Tryd.prog l #[tx x] W fun e W' =>
      (e = .returned (.bool true) ∧ J (pre ++ [x]) W' ∧ KeepsM m W W') ∨ (e = .returned (.bool false) ∧ Jx (pre ++ [x]) W'))
    (W : World) (hBs : W.cell? ⟨Bs, 0, none⟩ = some (.string ⟨s.toArray⟩)) (hm : MaxAt m W) (h0 : J [] W) :
    CallsIn F n Tryd.prog 41 #[.func (.yield l) #[] #[], .pointer (some ⟨Bs, 0, none⟩)] W fun e W' => (∃ v, e = .returned v) ∧
      ((∃ ys, ys = split s ∧ J ys W') ∨ (∃ pre, pre <+: split s ∧ Jx pre W')) := by
  refine callsIn_of_wp Tryd.func41 rfl h41 ?_ hro
  simp only [Tryd.ntmps41, List.size_toArray, List.length_cons, List.length_nil, Nat.reduceAdd, Nat.reduceSub, Array.replicate_succ, Array.replicate_zero, List.push_toArray, List.append_toArray, List.nil_append, List.cons_append]
  gi_wp2
  clear hBs
  gi_loopw [3, 4] (fun r mo wr => ∃ (pre : List T) (R : T), r = .string ⟨R.toArray⟩ ∧ R.length ≤ 1000000 ∧ J pre wr ∧ MaxAt m wr ∧ ((mo = .bool true ∧ split s = pre ++ split R) ∨ (mo = .bool false ∧ pre = split s)))
    (fun r mo _ => leftN r mo)
  case atStart => exact ⟨[], s, rfl, hs, h0, hm, .inl ⟨rfl, rfl⟩⟩
  case round =>
    obtain ⟨pre, R, rfl, hR, hJs, hmr, ⟨rfl, hsp⟩ | ⟨rfl, hsp⟩⟩ := hrel
    · have hc := hcut R wr hR hmr
      rcases first_slash R with h47 | ⟨x, r, hRe, hx⟩
      · rw [cut_no R h47] at hc
        have hpl : pre.length < (split s).length := by rw [hsp, split_none R h47]; simp
        have hend := Lib.hid (show pre ++ [R] = split s by rw [hsp, split_none R h47])
        have HSP := Lib.hid hsp
        clear hsp h47
        gi_wp2_with fail
        refine hc.mono ?_
        rintro e W1 ⟨rfl, q, rfl⟩
        have hmq : MaxAt m (wr.drewN q) := hmr
        obtain ⟨fn, tmps, assign, body, hy, hYR⟩ := hY pre R (wr.drewN q) hR (hJd _ _ _ hJs) hpl
        simp only [tx] at hy
        gi_wp2
        refine hYR.mono ?_
        rintro e W3 (⟨rfl, hJ3, hk3⟩ | ⟨rfl, hJx3⟩)
        · gi_wp2
          go_roundw
          case rel => exact ⟨pre ++ [R], [], rfl, by simp, hJ3, hk3 hmq, .inr ⟨rfl, hend.out⟩⟩
          case measure => show leftN _ (.bool false) < leftN (.string ⟨R.toArray⟩) (.bool true); rw [leftN_true, leftN_false]; omega
        · gi_wp2
          refine bodyPost_ret (results_none rfl _ _ _) rfl ?_
          exact ⟨⟨_, rfl⟩, .inr ⟨_, by rw [hend.out]; exact List.prefix_refl _, hJx3⟩⟩
      · have hRl : x.length + r.length + 1 = R.length := by rw [hRe]; simp; omega
        rw [hRe, cut_at x r hx] at hc
        have hsp' : split s = (pre ++ [x]) ++ split r := by rw [hsp, hRe, split_cons x r hx]; simp
        have hpl : pre.length < (split s).length := by rw [hsp']; simp
        have HSP := Lib.hid hsp'
        rw [← hRe] at hc
        clear hsp hsp' hRe
        gi_wp2_with fail
        refine hc.mono ?_
        rintro e W1 ⟨rfl, q, rfl⟩
        have hmq : MaxAt m (wr.drewN q) := hmr
        obtain ⟨fn, tmps, assign, body, hy, hYR⟩ := hY pre x (wr.drewN q) (by omega) (hJd _ _ _ hJs) hpl
        simp only [tx] at hy
        gi_wp2
        refine hYR.mono ?_
        rintro e W3 (⟨rfl, hJ3, hk3⟩ | ⟨rfl, hJx3⟩)
        · gi_wp2
          go_roundw
          case rel => exact ⟨pre ++ [x], r, rfl, by omega, hJ3, hk3 hmq, .inl ⟨rfl, HSP.out⟩⟩
          case measure => show leftN (.string ⟨r.toArray⟩) (.bool true) < leftN (.string ⟨R.toArray⟩) (.bool true); rw [leftN_true, leftN_true]; omega
        · gi_wp2
          refine bodyPost_ret (results_none rfl _ _ _) rfl ?_
          exact ⟨⟨_, rfl⟩, .inr ⟨_, by rw [HSP.out]; exact List.prefix_append _ _, hJx3⟩⟩
    · have HSP := Lib.hid hsp
      clear hsp
      gi_wp2
      go_end0
      exact ⟨⟨_, rfl⟩, .inl ⟨_, HSP.out, hJs⟩⟩

theorem cut_in (R : T) (hR : R.length ≤ 1000000) (m : Int) (W : World) (hm : MaxAt m W) (n : Nat) :
    CallsIn Fence.wide n Tryd.prog 42 #[.string ⟨R.toArray⟩, .string ⟨#[47]⟩] W fun e W' => e = .returned (.tuple #[.string ⟨(Lib.cut R [47]).1.toArray⟩, .string ⟨(Lib.cut R [47]).2.1.toArray⟩, .bool (Lib.cut R [47]).2.2]) ∧ ∃ n, W' = W.drewN n :=
  callsIn_wide.2 (Tryd.strings_Cut ⟨R.toArray⟩ ⟨#[47]⟩ m W (by rw [size_tx]; omega) hm)

set_option maxHeartbeats 1000000 in
theorem parts_in (F : Fence) (n : Nat) (h30 : F.fn 30) (hro : F.round = none) (s : ByteArray) (w : World) :
    CallsIn F n Tryd.prog 30 #[.string s] w fun e w' => e = .returned (.func (.func 41) #[] #[.pointer (some ⟨w.heap.size, 0, none⟩)]) ∧ w.alloc (.cells #[.string s] 9) = w' := by
  refine callsIn_of_wp Tryd.func30 rfl h30 ?_ hro
  simp only [Tryd.ntmps30, List.size_toArray, List.length_cons, List.length_nil, Nat.reduceAdd, Nat.reduceSub, Array.replicate_succ, Array.replicate_zero, List.push_toArray, List.append_toArray, List.nil_append, List.cons_append]
  gi_wp2
  go_ret
  exact ⟨rfl, rfl⟩

/-- A piece of a size that can be borne. -/
abbrev Piece := { x : T // x.length ≤ 1000000 }
def texts (ps : List Piece) : List T := ps.map (·.1)
theorem texts_snoc (ps : List Piece) (x : Piece) : texts (ps ++ [x]) = texts ps ++ [x.1] := by simp [texts]
theorem grown_drewN (W : World) (q : Nat) : W.grownBy (W.drewN q) none := ⟨rfl, rfl, rfl, Nat.le_refl _, fun _ _ _ => rfl⟩
theorem parts_stops (n : Nat) (hn : 1 ≤ n) (Bs : Nat) (s : T) (hs : s.length ≤ 1000000) (m : Int) (w : World) (hm : MaxAt m w) (hb : w.cell? ⟨Bs, 0, none⟩ = some (.string ⟨s.toArray⟩)) :
    SeqStopsK Fence.wide n Tryd.prog 41 #[.pointer (some ⟨Bs, 0, none⟩)] (fun x : Piece => #[tx x.1]) (KeepsM m) (fun ys => texts ys = split s) (fun pre => texts pre <+: split s) (split s).length w := by
  intro l J Jx W hW hA _ hY h0
  refine (parts1_in Fence.wide n trivial trivial rfl hn l Bs s hs m (fun ps W => ∃ qs, texts qs = ps ∧ J qs W) (fun ps W => ∃ qs, texts qs = ps ∧ Jx qs W) (fun R W' hR hm' => cut_in R hR m W' hm' _) ?_ ?_ W
    ((hW.cell (p := ⟨Bs, 0, none⟩) (World.block_lt_of_cell? _ _ hb)).trans hb) (hm.later hW) ⟨[], rfl, h0⟩).mono ?_
  · rintro pre W1 q ⟨qs, rfl, hJ⟩
    exact ⟨qs, rfl, hA qs W1 _ none hJ (grown_drewN W1 q) (fun r e => by cases e)⟩
  · rintro pre x W1 hx ⟨qs, rfl, hJ⟩ hlt
    obtain ⟨fn, tmps, assign, body, hy, hR⟩ := hY qs ⟨x, hx⟩ W1 hJ (by simpa [texts] using hlt)
    refine ⟨fn, tmps, assign, body, hy, hR.mono ?_⟩
    rintro e W' (⟨rfl, hJ', hk⟩ | ⟨rfl, hJ'⟩)
    · exact .inl ⟨rfl, ⟨_, texts_snoc _ _, hJ'⟩, hk⟩
    · exact .inr ⟨rfl, _, texts_snoc _ _, hJ'⟩
  · rintro e W' ⟨he, ⟨ys, rfl, qs, hq, hJ⟩ | ⟨pre, hp, qs, rfl, hJ⟩⟩
    · exact ⟨he, .inl ⟨qs, hq, hJ⟩⟩
    · exact ⟨he, .inr ⟨qs, hp, hJ⟩⟩

/-- slices.Clone of a slice of texts. -/
theorem clones_any (v : Value) (l : List T) (hl : l.length ≤ 100000) (w : World) (h : Strs w v l) :
    Calls Tryd.prog 29 #[v] w fun e w' => ∃ v', e = .returned v' ∧ w'.ownsRow w.heap.size 9 1 v' l.length (l.map tx) ∧ Below w.heap.size w w' := by
  obtain ⟨a, c, rfl, h1, h2, h3, h4⟩ := h
  by_cases hn : l = []
  · subst hn
    cases a with
    | none =>
      refine (Tryd.slices_Clone_string_nil 0 c w).mono ?_
      rintro e w' ⟨rfl, rfl⟩
      exact ⟨_, rfl, ⟨rfl, .inl ⟨rfl, rfl⟩⟩, Below.refl _ _⟩
    | some x =>
      refine (Tryd.slices_Clone_string_zero x c w).mono ?_
      rintro e w' ⟨v', rfl, ho, _, hb⟩
      exact ⟨_, rfl, ho, hb⟩
  · obtain ⟨b, off, rfl, hc⟩ := h4 hn
    refine (Tryd.slices_Clone_string b off l.length c (l.map fun t => ⟨t.toArray⟩) w (by simp) (by omega) (fun j hj => ?_)).mono ?_
    · have hj' : j < l.length := by simpa using hj
      rw [hc j hj']
      simp [List.getD, hj']
    · rintro e w' ⟨v', rfl, ho, _, hb⟩
      refine ⟨_, rfl, ?_, hb⟩
      rw [List.take_of_length_le (by simp), List.map_map] at ho
      exact ho

end Go.Proofs.YtbofkmaajhfkeaaDoor.Path
