/-
  The table of names; the map of names that policies() makes, the closure that asks it; Policy(s), Name(p).
-/
import Derived.Maps.Own
import Derived.Maps.OwnOps
import Derived.Maps.OwnSet
import Derived.Maps.Views
import Derived.Deep.RegionLaw
import Derived.Test.YtbgebolamkfnlaaDoorTkFacts
import Derived.Test.YtbgebolamkfnlaaDoorHdNamed
namespace Go.Proofs.YtbgebolamkfnlaaDoor.Token
set_option linter.unusedSimpArgs false
set_option linter.unusedVariables false
set_option maxRecDepth 100000


open Go.RowKit Go.Shelf

open Url

open Path (Strs tx MaxAt)

open Head (F tb tb_of tb_list tb_toList tb_size Flds FAt owns_later key73 quiet_load quiet_lookup loadS wp_load_of)


/-! ### The table of names -/
/-- internal/bytealg.MaxLen holds an int, the table of names holds the names. -/
structure TokAt (m : Int) (w : World) : Prop where
  max : MaxAt m w
  tab : ∀ k, k < 9 → w.cell? ⟨0, k, none⟩ = some (.string (tb (nameT k)))

theorem TokAt.later {m : Int} {w u : World} (h : TokAt m w) (hB : Below w.heap.size w u) : TokAt m u :=
  ⟨h.max.later hB, fun k hk => (hB.cell (p := ⟨0, k, none⟩) (World.block_lt_of_cell? _ _ (h.tab k hk))).trans (h.tab k hk)⟩

def NA : Array Value := #[.string (tb (nameT 0)), .string (tb (nameT 1)), .string (tb (nameT 2)), .string (tb (nameT 3)), .string (tb (nameT 4)), .string (tb (nameT 5)), .string (tb (nameT 6)), .string (tb (nameT 7)), .string (tb (nameT 8))]

theorem na_at (k : Nat) (h : k < 9) : NA[k]? = some (.string (tb (nameT k))) := by
  match k, h with
  | 0, _ => rfl
  | 1, _ => rfl
  | 2, _ => rfl
  | 3, _ => rfl
  | 4, _ => rfl
  | 5, _ => rfl
  | 6, _ => rfl
  | 7, _ => rfl
  | 8, _ => rfl

theorem TokAt.load {m : Int} {w : World} (h : TokAt m w) : (loadVar 44 ⟨0, 0, none⟩).run Tryd.prog w = .ok (.agg NA) w := by
  have hl : (loadCells ⟨0, 0, none⟩ NA.toList.length).run Tryd.prog w = .ok NA.toList.toArray w :=
    run_loadCells_list (P := Tryd.prog) w ⟨0, 0, none⟩ NA.toList (fun j v hv => by
      have hadd : (⟨0, 0, none⟩ : Addr).add j = ⟨0, j, none⟩ := by unfold Addr.add; simp; omega
      have hj : j < 9 := (List.getElem?_eq_some_iff.1 hv).1
      rw [hadd, h.tab j hj]
      have := na_at j hj
      rw [← Array.getElem?_toList, hv] at this
      exact this.symm)
  have hagg : (isAgg 44).run Tryd.prog w = .ok true w := by kernel_rfl
  have hsz : (sizeOf 44).run Tryd.prog w = .ok 9 w := by kernel_rfl
  have hlen : NA.toList.length = 9 := rfl
  rw [hlen] at hl
  simp [loadVar, Sem.run_bind, hagg, hsz, hl]

theorem index44 (k : Nat) (h : k < 9) (w : World) : (Instr.index 44 (.agg NA) (.int .i64 k)).run Tryd.prog w = .ok (.string (tb (nameT k))) w := by
  have hi : (0 : Int) ≤ (k : Int) ∧ (k : Int) < 9 := by omega
  have ha := na_at k h
  generalize NA = na at ha ⊢
  generalize Value.string (tb (nameT k)) = v at ha ⊢
  simp [Instr.index, run_underlying Tryd.underlying44, asIntOf, hi, ha, go_sem]
  intro h'
  omega

theorem wp_index44 {ops : Array Oper} {rest : List Oper} {o : Oper} {a : Act} {w : World} {Q : Exit → Act → World → Prop} (hgd : o.guard = none) (x y : Operand) (ho : o.op = .index 44 x y) (hx : a.eval x = .agg NA)
    (k : Nat) (h9 : k < 9) (hy : a.eval y = .int .i64 k) (h : wpList Tryd.prog ops Q rest (a.put o.dst (.string (tb (nameT k)))) w) : wpList Tryd.prog ops Q (o :: rest) a w :=
  wpList_plain hgd fun _ hK => by
    unfold Oper.wp execOp
    simp only [ho, Sem.run_bind, hx, hy, index44 k h9 w, Result.andThen_ok]
    exact hK _ _ h

theorem wp_load44 {ops : Array Oper} {rest : List Oper} {o : Oper} {a : Act} {w : World} {Q : Exit → Act → World → Prop} (hgd : o.guard = none) (x : Operand) (ho : o.op = .load 44 x) (hx : a.eval x = .pointer (some ⟨0, 0, none⟩))
    {m : Int} (hm : TokAt m w) (h : wpList Tryd.prog ops Q rest (a.put o.dst (.agg NA)) w) : wpList Tryd.prog ops Q (o :: rest) a w :=
  wpList_plain hgd fun _ hK => wp_load_of 44 x ho ⟨0, 0, none⟩ hx (.agg NA) hm.load (hK _ _ h)

/-! ### A map of texts to ints, asked -/

theorem zeroInt (w : World) : (zeroValue 3).run Tryd.prog w = .ok (.int .i64 0) w := by kernel_rfl

theorem zeroOk : (Lit.int .i64 0).wf = true := by decide

/-- Block b is a map, of n at most, that says this of each text. -/
def IntsAt (W : World) (b n : Nat) (f : T → Int) : Prop :=
  ∃ (k : Nat) (D : DataW Unit), k ≤ n ∧ W.ownsMap Tryd.prog 9 (plainElem Tryd.prog 3) b k D ∧ Maps.IsMap D ∧ ∀ s : T, D.atKey (.string s) (.lit (.int .i64 0)) = .lit (.int .i64 (f s))

theorem IntsAt.later {W W' : World} {b n : Nat} {f : T → Int} (h : IntsAt W b n f) (hB : Below W.heap.size W W') : IntsAt W' b n f := by
  obtain ⟨k, D, hn, ho, hD, hk⟩ := h
  exact ⟨k, D, hn, owns_later ho hB, hD, hk⟩

theorem IntsAt.lt {W : World} {b n : Nat} {f : T → Int} (h : IntsAt W b n f) : b < W.heap.size := by
  obtain ⟨k, D, hn, ho, hD, hk⟩ := h
  exact ho.lt

theorem IntsAt.made (w : World) : IntsAt (w.alloc (.map #[] 0)) w.heap.size 0 (fun _ => 0) :=
  ⟨0, _, Nat.le_refl _, World.ownsMap_made w Tryd.prog 9 (plainElem Tryd.prog 3), Maps.isMap_empty, fun s => rfl⟩

theorem IntsAt.ask {W : World} {b n : Nat} {f : T → Int} (h : IntsAt W b n f) (s : ByteArray) (hs : s.size ≤ maxLen) : (Instr.lookup 64 (.map (some b)) (.string s) false).run Tryd.prog W = .ok (.int .i64 (f s.data.toList)) W := by
  obtain ⟨k, D, hn, ho, hD, hk⟩ := h
  obtain ⟨v, ps, hrun, hv⟩ := ho.lookup key73 Tryd.underlying64 (zeroInt W) (plainElem_int Tryd.underlying3 zeroOk) (WideMaps.keyOf_string_mk Tryd.underlying9 hs)
  obtain ⟨x, rfl, hx, _⟩ := plainElem_int_inv Tryd.underlying3 hv
  have hx1 : D.atKey (.string s.data.toList) (.lit (.int .i64 0)) = .lit (.int .i64 x) := (Prod.mk.inj hx).1
  rw [hk] at hx1
  have : f s.data.toList = x := by
    injection hx1 with h1
    injection h1
  rw [this]; exact hrun

theorem IntsAt.put {W : World} {b n : Nat} {f : T → Int} (h : IntsAt W b n f) (s : ByteArray) (hs : s.size ≤ maxLen) (hn : n < 1000) (v : Int) (hv : (Lit.int .i64 v).wf = true) :
    ∃ W', (Instr.mapUpdate 64 (.map (some b)) (.string s) (.int .i64 v)).run Tryd.prog W = .ok () W' ∧ IntsAt W' b (n + 1) (fun t => if t = s.data.toList then v else f t) ∧ W.grownBy W' (some b) := by
  obtain ⟨k, D, hk, ho, hD, ha⟩ := h
  obtain ⟨W', hrun, ho', hg⟩ := ho.update key73 Tryd.underlying64 (by unfold maxLen; omega) (WideMaps.keyOf_string_mk Tryd.underlying9 hs) (plainElem_int Tryd.underlying3 hv)
  refine ⟨W', hrun, ⟨k + 1, _, by omega, ho', hD.put _ _, fun t => ?_⟩, hg⟩
  by_cases e : t = s.data.toList
  · subst e
    rw [Maps.atKey_put_same hD (by first | rfl | decide | trivial | exact .string _ | constructor)]
    show _ = DataW.lit (Lit.int IntKind.i64 (if s.data.toList = s.data.toList then v else f s.data.toList))
    rw [if_pos rfl]
  · rw [Maps.atKey_put_other (fun h => e (by injection h)), ha t]
    show _ = DataW.lit (Lit.int IntKind.i64 (if t = s.data.toList then v else f t))
    rw [if_neg e]

theorem small_wf (k : Nat) (h : k < 9) : (Lit.int .i64 (k : Int)).wf = true := by
  have : ∀ k : Fin 9, (Lit.int .i64 ((k.1 : Nat) : Int)).wf = true := by decide +kernel
  exact this ⟨k, h⟩

def polI (k : Nat) (t : T) : Int := (polF k t : Nat)

theorem polI_zero : (fun _ : T => (0 : Int)) = polI 0 := rfl

theorem polI_next (k : Nat) : (fun t => if t = nameT k then (k : Int) else polI k t) = polI (k + 1) := by
  funext t
  unfold polI
  conv => rhs; unfold polF
  split <;> rfl

/-- The box B holds the map of the names. -/
def PolsAt (W : World) (B : Nat) : Prop := ∃ b, W.cell? ⟨B, 0, none⟩ = some (.map (some b)) ∧ IntsAt W b 9 (polI 9)

theorem PolsAt.later {W W' : World} {B : Nat} (h : PolsAt W B) (hB : Below W.heap.size W W') : PolsAt W' B := by
  obtain ⟨b, hc, hk⟩ := h
  exact ⟨b, (hB.cell (p := ⟨B, 0, none⟩) (World.block_lt_of_cell? _ _ hc)).trans hc, hk.later hB⟩

theorem PolsAt.lt {W : World} {B : Nat} (h : PolsAt W B) : B < W.heap.size := by
  obtain ⟨b, hc, hk⟩ := h
  exact World.block_lt_of_cell? _ _ hc

/-! ### The closure -/

theorem loadMI {u : World} {p : Addr} {v : Value} (h : u.cell? p = some v) : (loadVar 64 p).run Tryd.prog u = .ok v u := by
  simp [loadVar, Tryd.isAgg64, h, go_sem]

set_option maxRecDepth 100000 in
set_option maxHeartbeats 2000000 in
theorem tells_any (x : ByteArray) (hx : x.size ≤ 1000000) (B : Nat) (w : World) (h : PolsAt w B) :
    Calls Tryd.prog 46 #[.string x, .pointer (some ⟨B, 0, none⟩)] w fun e w' => e = .returned (.int .i64 (polB x.data.toList : Nat)) ∧ Below w.heap.size w w' := by
  obtain ⟨b, hc, hk⟩ := h
  have hll : (Ascii.lower x.data.toList).length = x.size := by unfold Ascii.lower; rw [List.length_map]; rfl
  have QL := Lib.hid (fun u (hu : Below w.heap.size w u) => loadMI ((hu.cell (p := ⟨B, 0, none⟩) (World.block_lt_of_cell? _ _ hc)).trans hc))
  have QK := Lib.hid (fun u (hu : Below w.heap.size w u) => (hk.later hu).ask ⟨(Ascii.lower x.data.toList).toArray⟩ (by show (Ascii.lower x.data.toList).length ≤ _; unfold maxLen; omega))
  have CL := Lib.hid (fun u => Ascii.lower_calls x (by unfold maxLen; omega) (by omega) u)
  clear hc hk hll
  go_enter Tryd.func46, Tryd.ntmps46
  go_wp2
  refine Ascii.wp_region_quiet_below (by kernel_rfl) (by kernel_rfl) ?_
  ((go_big_quiet_want; (with_reducible refine quiet_load (o := ⟨some 4, .load 64 (.tmp 1), _, _, _, _⟩) 64 (.tmp 1) ?_ _ ?_ _ QL.out ?_); (· rfl); (· rfl)); go_big_quiet_on; simp only [Act.put, List.setIfInBounds_toArray, List.set_cons_succ, List.set_cons_zero])
  go_big_quiet_step ((intro _; rfl))
  go_big_quiet_step ((intro hu; go_at_call 22; exact (CL.out _).mono fun e u' h => ⟨h.1, hu.trans (h.2.mono hu.size)⟩))
  ((go_big_quiet_want; (with_reducible refine quiet_lookup (o := ⟨some 7, .lookup 64 (.tmp 4) (.tmp 6) false, _, _, _, _⟩) 64 (.tmp 4) (.tmp 6) ?_ b ?_ _ ?_ _ QK.out ?_); (· rfl); (· rfl); (· rfl)); go_big_quiet_on; simp only [Act.put, List.setIfInBounds_toArray, List.set_cons_succ, List.set_cons_zero])
  repeat (go_big_quiet_step ((intro _; rfl)))
  refine wpQuiet_nil ?_
  intro z hz
  go_wp2
  go_ret
  exact ⟨rfl, hz⟩

/-! ### The map is filled -/

def HeldI (W : World) (B b n : Nat) (f : T → Int) : Prop := Boxed W B 64 (.map (some b)) ∧ IntsAt W b n f

set_option maxRecDepth 100000 in
set_option maxHeartbeats 4000000 in
theorem policies_any (m : Int) (w : World) (hm : TokAt m w) :
    Calls Tryd.prog 28 #[] w fun e w' => ∃ B, e = .returned (.func (.func 46) #[] #[.pointer (some ⟨B, 0, none⟩)]) ∧ PolsAt w' B ∧ Below w.heap.size w w' := by
  have hmm := @run_makeMap Tryd.prog
  have hK0 := IntsAt.made w
  have hz : (w.alloc (.map #[] 0)).heap.size = w.heap.size + 1 := Array.size_push _
  have hB0 : Below w.heap.size w ((w.alloc (.map #[] 0)).alloc (.cells #[.map (some w.heap.size)] 64)) := ((Below.refl w.heap.size w).alloc (Nat.le_refl _) _).alloc (by omega) _
  have hM0 : HeldI ((w.alloc (.map #[] 0)).alloc (.cells #[.map (some w.heap.size)] 64)) (w.heap.size + 1) w.heap.size 0 (polI 0) := by
    refine ⟨?_, by rw [← polI_zero]; exact hK0.later ((Below.refl _ _).alloc (Nat.le_refl _) _)⟩
    have := Boxed.new (w.alloc (.map #[] 0)) 64 (.map (some w.heap.size))
    rw [hz] at this
    exact this
  have hmT := hm.later hB0
  clear hK0 hz
  go_enter Tryd.func28, Tryd.ntmps28
  go_wp2_with ((with_reducible refine wp_load44 (o := ⟨some 5, .load 44 (.global 0), _, _, _, _⟩) ?_ (.global 0) ?_ ?_ hmT ?_); (· rfl); (· rfl); (· rfl))
  clear hmT
  generalize hNA : NA = na
  go_loopw [2, 3, 6] (fun _ _ i wr => ∃ k : Nat, k ≤ 9 ∧ i = .int .i64 k ∧ HeldI wr (w.heap.size + 1) w.heap.size k (polI k) ∧ Below w.heap.size w wr) (fun _ _ i _ => 9 - (intOf i).toNat)
  case atStart => exact ⟨0, Nat.zero_le _, rfl, hM0, hB0⟩
  case round =>
    obtain ⟨k, hk, rfl, ⟨hbx, hks⟩, hB⟩ := hrel
    clear hM0 hB0
    by_cases hlt : k < 9
    · have q1 : decide ((k : Int) < 9) = true := decide_eq_true (by omega)
      have HP := Lib.hid (polI_next k)
      have HL := Lib.hid (show Ascii.lower (tb (nameT k)).data.toList = nameT k by rw [tb_list]; exact name_low k)
      have hsz : (tb (nameT k)).size ≤ 31 := name_len k
      have hnl := name_len k
      have hc0 := hbx.cell
      have hbl := hbx.lt
      have hwb := hB.size
      subst hNA
      go_wp2_with ((with_reducible refine wp_index44 (o := ⟨some 9, .index 44 (.tmp 5) (.tmp 6), _, _, _, _⟩) ?_ (.tmp 5) (.tmp 6) ?_ ?_ k hlt ?_ ?_); (· rfl); (· rfl); (· rfl); (· rfl))
      generalize tb (nameT k) = N at HL hsz ⊢
      go_region_law (go_simp; go_at_call 22; refine (Ascii.lower_calls N (by unfold maxLen; omega) (by omega) _).mono ?_; rw [HL.out]; rintro e w1 ⟨rfl, hB1⟩; have hv1 : Boxed w1 (w.heap.size + 1) 64 (.map (some w.heap.size)) := Path.boxed_below (W := wr.drew) hbx hB1; have hc1 := hv1.cell; obtain ⟨w2, hrun, hk2, hg2⟩ := (IntsAt.later (W := wr.drew) hks hB1).put ⟨(nameT k).toArray⟩ (by show (nameT k).length ≤ _; unfold maxLen; omega) (Nat.lt_of_le_of_lt hk (by decide)) (k : Int) (small_wf k hlt))
      all_goals
        have hv2 : Boxed w2 (w.heap.size + 1) 64 (.map (some w.heap.size)) := (hg2.block _ hv1.lt (by simp)).trans hv1
        have hBd := hB.drew.trans (hB1.mono hwb)
        have hB2 := hBd.grown hg2 hBd.size (fun j e => by cases e; exact Nat.le_refl _)
        have hk3 : IntsAt w2 w.heap.size (k + 1) (polI (k + 1)) := by rw [← HP.out]; exact hk2
        clear hk2 hrun hg2 hB1 hv1 hc1 hBd hB
        go_wp2
        go_roundw
        case rel => exact ⟨k + 1, by omega, by go_num, ⟨hv2, hk3⟩, hB2⟩
        case measure => simp [intOf]; omega
    · obtain rfl : k = 9 := by omega
      have hc0 := hbx.cell
      have q1 : decide ((9 : Int) < 9) = false := by decide
      go_wp2
      go_ret
      exact ⟨_, rfl, ⟨_, hc0, hks⟩, hB⟩

set_option maxRecDepth 100000 in
set_option maxHeartbeats 2000000 in
theorem policy_any (x : ByteArray) (hx : x.size ≤ 1000000) (m : Int) (w : World) (hm : TokAt m w) :
    Calls Tryd.prog 14 #[.string x] w fun e w' => e = .returned (.int .i64 (polB x.data.toList : Nat)) ∧ Below w.heap.size w w' := by
  go_enter Tryd.func14, Tryd.ntmps14
  go_wp2_with fail
  refine (policies_any m w hm).mono ?_
  rintro e w1 ⟨B, rfl, hP, hB1⟩
  go_wp2_with fail
  refine (tells_any x hx B w1 hP).mono ?_
  rintro e w2 ⟨rfl, hB2⟩
  go_wp2
  go_ret
  exact ⟨rfl, Ascii.below2 hB1 hB2⟩

set_option maxRecDepth 100000 in
set_option maxHeartbeats 2000000 in
theorem name_any (p : Int) (m : Int) (w : World) (hm : TokAt m w) :
    Calls Tryd.prog 16 #[.int .i64 p] w fun e w' => e = .returned (.string (tb (nameI p))) ∧ w' = w := by
  by_cases h0 : p < 0
  · have q1 : decide (p < 0) = true := decide_eq_true h0
    have e : tb (nameI p) = ⟨#[]⟩ := by unfold nameI; rw [if_neg (by omega)]; rfl
    rw [e]
    clear h0
    go_enter Tryd.func16, Tryd.ntmps16
    go_wp2
    go_ret
    exact ⟨rfl, rfl⟩
  · have q1 : decide (p < 0) = false := decide_eq_false h0
    by_cases h9 : 9 ≤ p
    · have q2 : decide (9 ≤ p) = true := decide_eq_true h9
      have e : tb (nameI p) = ⟨#[]⟩ := by unfold nameI; rw [if_neg (by omega)]; rfl
      rw [e]
      clear h0 h9
      go_enter Tryd.func16, Tryd.ntmps16
      go_wp2
      go_ret
      exact ⟨rfl, rfl⟩
    · have q2 : decide (9 ≤ p) = false := decide_eq_false h9
      obtain ⟨k, rfl⟩ : ∃ k : Nat, p = k := ⟨p.toNat, by omega⟩
      have hk : k < 9 := by omega
      have hc := hm.tab k hk
      have e : tb (nameI (k : Int)) = tb (nameT k) := by unfold nameI; rw [if_pos (by omega)]; rfl
      rw [e]
      generalize tb (nameT k) = N at hc
      clear h0 h9 hm e
      go_enter Tryd.func16, Tryd.ntmps16
      go_wp2
      go_ret
      exact ⟨rfl, rfl⟩

end Go.Proofs.YtbgebolamkfnlaaDoor.Token
