/-
  named(names...): the map of names in small letters, the closure that asks it.
-/
import Derived.Maps.Own
import Derived.Maps.OwnOps
import Derived.Maps.OwnSet
import Derived.Maps.Views
import Derived.Deep.RegionLaw
import Derived.Test.YtbgebolamkfnlaaDoorHdVal
namespace Go.Proofs.YtbgebolamkfnlaaDoor.Head
set_option linter.unusedSimpArgs false
set_option linter.unusedVariables false
set_option maxRecDepth 100000


open Go.RowKit Go.Shelf

open Url

open Path (Strs)


/-! ### A map of texts to bools, asked -/
theorem plainElem_bool_inv {P : Program} {e : TypeId} (he : P.underlying e = some .bool) {v : Value} {z : DataW Unit × List MemPlace} (h : plainElem P e v = some z) : ∃ x, v = .bool x ∧ z = (.lit (.bool x), []) := by
  unfold plainElem at h
  rw [he] at h
  cases v <;> simp at h
  exact ⟨_, rfl, h.symm⟩

theorem key73 : Maps.Keyed Tryd.prog 9 := Maps.string_keyed Tryd.underlying9

theorem zeroBool (w : World) : (zeroValue 4).run Tryd.prog w = .ok (.bool false) w := by kernel_rfl

/-- Block b is a map that says true of these keys, and false of all others. -/
def KeysAt (W : World) (b : Nat) (ks : List T) : Prop :=
  ∃ (n : Nat) (D : DataW Unit), n ≤ ks.length ∧ W.ownsMap Tryd.prog 9 (plainElem Tryd.prog 4) b n D ∧ Maps.IsMap D ∧ ∀ s : T, D.atKey (.string s) (.lit (.bool false)) = .lit (.bool (ks.contains s))

theorem owns_later {W W' : World} {P : Program} {k : TypeId} {R : Value → Option (DataW Unit × List MemPlace)} {b n : Nat} {D : DataW Unit} (h : W.ownsMap P k R b n D) (hB : Below W.heap.size W W') : W'.ownsMap P k R b n D := by
  have hlt := h.lt
  obtain ⟨es, clock, hb, F, hs, hD⟩ := h
  exact ⟨es, clock, (hB.block b hlt).trans hb, F, hs, hD⟩

theorem KeysAt.later {W W' : World} {b : Nat} {ks : List T} (h : KeysAt W b ks) (hB : Below W.heap.size W W') : KeysAt W' b ks := by
  obtain ⟨n, D, hn, ho, hD, hk⟩ := h
  exact ⟨n, D, hn, owns_later ho hB, hD, hk⟩

theorem KeysAt.lt {W : World} {b : Nat} {ks : List T} (h : KeysAt W b ks) : b < W.heap.size := by
  obtain ⟨n, D, hn, ho, hD, hk⟩ := h
  exact ho.lt

theorem KeysAt.made (w : World) : KeysAt (w.alloc (.map #[] 0)) w.heap.size [] :=
  ⟨0, _, Nat.le_refl _, World.ownsMap_made w Tryd.prog 9 (plainElem Tryd.prog 4), Maps.isMap_empty, fun s => rfl⟩

theorem KeysAt.ask {W : World} {b : Nat} {ks : List T} (h : KeysAt W b ks) (s : ByteArray) (hs : s.size ≤ maxLen) : (Instr.lookup 71 (.map (some b)) (.string s) false).run Tryd.prog W = .ok (.bool (ks.contains s.data.toList)) W := by
  obtain ⟨n, D, hn, ho, hD, hk⟩ := h
  obtain ⟨v, ps, hrun, hv⟩ := ho.lookup key73 Tryd.underlying71 (zeroBool W) (plainElem_bool Tryd.underlying4 false) (WideMaps.keyOf_string_mk Tryd.underlying9 hs)
  obtain ⟨x, rfl, hx⟩ := plainElem_bool_inv Tryd.underlying4 hv
  have hx1 : D.atKey (.string s.data.toList) (.lit (.bool false)) = .lit (.bool x) := (Prod.mk.inj hx).1
  rw [hk] at hx1
  have : ks.contains s.data.toList = x := by
    injection hx1 with h1
    injection h1
  rw [this]; exact hrun

theorem KeysAt.put {W : World} {b : Nat} {ks : List T} (h : KeysAt W b ks) (s : ByteArray) (hs : s.size ≤ maxLen) (hk : ks.length < maxLen) :
    ∃ W', (Instr.mapUpdate 71 (.map (some b)) (.string s) (.bool true)).run Tryd.prog W = .ok () W' ∧ KeysAt W' b (ks ++ [s.data.toList]) ∧ W.grownBy W' (some b) := by
  obtain ⟨n, D, hn, ho, hD, ha⟩ := h
  obtain ⟨W', hrun, ho', hg⟩ := ho.update key73 Tryd.underlying71 (by omega) (WideMaps.keyOf_string_mk Tryd.underlying9 hs) (plainElem_bool Tryd.underlying4 true)
  refine ⟨W', hrun, ⟨n + 1, _, by simp; omega, ho', hD.put _ _, fun t => ?_⟩, hg⟩
  by_cases e : t = s.data.toList
  · subst e
    rw [Maps.atKey_put_same hD (by first | rfl | decide | trivial | exact .string _ | constructor)]
    simp
  · rw [Maps.atKey_put_other (fun h => e (by injection h)), ha t]
    congr 2
    simp [e]

/-- The box B holds such a map. -/
def NamesAt (W : World) (B : Nat) (ks : List T) : Prop := ∃ b, W.cell? ⟨B, 0, none⟩ = some (.map (some b)) ∧ KeysAt W b ks

theorem NamesAt.later {W W' : World} {B : Nat} {ks : List T} (h : NamesAt W B ks) (hB : Below W.heap.size W W') : NamesAt W' B ks := by
  obtain ⟨b, hc, hk⟩ := h
  exact ⟨b, (hB.cell (p := ⟨B, 0, none⟩) (World.block_lt_of_cell? _ _ hc)).trans hc, hk.later hB⟩

/-! ### The closure -/

theorem loadM {u : World} {p : Addr} {v : Value} (h : u.cell? p = some v) : (loadVar 71 p).run Tryd.prog u = .ok v u := by
  simp [loadVar, Tryd.isAgg71, h, go_sem]

theorem loadS {u : World} {p : Addr} {v : Value} (h : u.cell? p = some v) : (loadVar 9 p).run Tryd.prog u = .ok v u := by
  simp [loadVar, Tryd.isAgg9, h, go_sem]

/-- A look-up, told alike in every world of the class. -/
theorem quiet_lookup {P : Program} {C : World → Prop} {o : Oper} {a : Act} {K : Act → Prop} (t : TypeId) (x y : Operand) (ho : o.op = .lookup t x y false) (b : Nat) (hx : a.eval x = .map (some b)) (k : Value) (hy : a.eval y = k) (v : Value) (hr : ∀ u, C u → (Instr.lookup t (.map (some b)) k false).run P u = .ok v u) (hk : K (a.put o.dst v)) : o.quiet P a C K :=
  ⟨_, fun w hw => by
    unfold Oper.quietAt execOp
    simp only [ho, hx, hy, Sem.run_bind, Sem.run_pure, Result.andThen_ok, hr w hw]
    exact ⟨rfl, rfl⟩, hk⟩

set_option maxRecDepth 100000 in
set_option maxHeartbeats 2000000 in
theorem goes_any (x y : ByteArray) (hx : x.size ≤ 1000000) (B : Nat) (ks : List T) (w : World) (h : NamesAt w B ks) :
    Calls Tryd.prog 54 #[.agg #[.string x, .string y], .pointer (some ⟨B, 0, none⟩)] w fun e w' => e = .returned (.bool (ks.contains (Ascii.lower x.data.toList))) ∧ Below w.heap.size w w' := by
  have hB0 := (Below.refl w.heap.size w).alloc (Nat.le_refl _) (.cells #[.string x, .string y] 36)
  obtain ⟨b, hc, hk⟩ := h.later hB0
  have hF := FAt.new w x y
  have HB0 := Lib.hid hB0
  have hll : (Ascii.lower x.data.toList).length = x.size := by unfold Ascii.lower; rw [List.length_map]; rfl
  have QL := Lib.hid (fun u (hu : Below (w.alloc (.cells #[.string x, .string y] 36)).heap.size (w.alloc (.cells #[.string x, .string y] 36)) u) => loadM ((hu.cell (p := ⟨B, 0, none⟩) (World.block_lt_of_cell? _ _ hc)).trans hc))
  have QS := Lib.hid (fun u (hu : Below (w.alloc (.cells #[.string x, .string y] 36)).heap.size (w.alloc (.cells #[.string x, .string y] 36)) u) => loadS (hF.later hu).c0)
  have QK := Lib.hid (fun u (hu : Below (w.alloc (.cells #[.string x, .string y] 36)).heap.size (w.alloc (.cells #[.string x, .string y] 36)) u) => (hk.later hu).ask ⟨(Ascii.lower x.data.toList).toArray⟩ (by show (Ascii.lower x.data.toList).length ≤ _; unfold maxLen; omega))
  have CL := Lib.hid (fun u => Ascii.lower_calls x (by unfold maxLen; omega) (by omega) u)
  clear hB0 hc hk hF h hll
  go_enter Tryd.func54, Tryd.ntmps54
  go_wp2
  generalize w.alloc (.cells #[.string x, .string y] 36) = W at HB0 QL QS QK ⊢
  refine Ascii.wp_region_quiet_below (by kernel_rfl) (by kernel_rfl) ?_
  ((go_big_quiet_want; (with_reducible refine quiet_load (o := ⟨some 4, .load 71 (.tmp 1), _, _, _, _⟩) 71 (.tmp 1) ?_ _ ?_ _ QL.out ?_); (· rfl); (· rfl)); go_big_quiet_on; simp only [Act.put, List.setIfInBounds_toArray, List.set_cons_succ, List.set_cons_zero])
  go_big_quiet_step ((intro _; rfl))
  ((go_big_quiet_want; (with_reducible refine quiet_load (o := ⟨some 6, .load 9 (.tmp 5), _, _, _, _⟩) 9 (.tmp 5) ?_ _ ?_ _ QS.out ?_); (· rfl); (· rfl)); go_big_quiet_on; simp only [Act.put, List.setIfInBounds_toArray, List.set_cons_succ, List.set_cons_zero])
  go_big_quiet_step ((intro hu; go_at_call 22; exact (CL.out _).mono fun e u' h => ⟨h.1, hu.trans (h.2.mono hu.size)⟩))
  ((go_big_quiet_want; (with_reducible refine quiet_lookup (o := ⟨some 8, .lookup 71 (.tmp 4) (.tmp 7) false, _, _, _, _⟩) 71 (.tmp 4) (.tmp 7) ?_ b ?_ _ ?_ _ QK.out ?_); (· rfl); (· rfl); (· rfl)); go_big_quiet_on; simp only [Act.put, List.setIfInBounds_toArray, List.set_cons_succ, List.set_cons_zero])
  repeat (go_big_quiet_step ((intro _; rfl)))
  refine wpQuiet_nil ?_
  intro z hz
  go_wp2
  go_ret
  exact ⟨rfl, Ascii.below2 HB0.out hz⟩

/-! ### The map is filled -/

theorem low_snoc (l : List T) (k : Nat) (h : k < l.length) : (l.take (k + 1)).map Ascii.lower = (l.take k).map Ascii.lower ++ [Ascii.lower l[k]] := by
  rw [List.take_succ_eq_append_getElem h, List.map_append]; rfl

/-- Box and map, apart. -/
def HeldM (W : World) (B b : Nat) (ks : List T) : Prop := Boxed W B 71 (.map (some b)) ∧ KeysAt W b ks

set_option maxRecDepth 100000 in
set_option maxHeartbeats 4000000 in
theorem named_wide (v : Value) (l : List T) (hl : l.length ≤ 100000) (hs : ∀ t ∈ l, t.length ≤ 140737488351232) (w : World) (h : Strs w v l) :
    Calls Tryd.prog 35 #[v] w fun e w' => ∃ B, e = .returned (.func (.func 54) #[] #[.pointer (some ⟨B, 0, none⟩)]) ∧ NamesAt w' B (l.map Ascii.lower) ∧ Below w.heap.size w w' := by
  obtain ⟨a, c, rfl, h1, h2, h3, h4⟩ := h
  unfold maxLen at h2
  have hmm := @run_makeMap Tryd.prog
  have H4 := Lib.hid h4
  clear h3 h4
  have hK0 := KeysAt.made w
  have hz : (w.alloc (.map #[] 0)).heap.size = w.heap.size + 1 := Array.size_push _
  have hB0 : Below w.heap.size w ((w.alloc (.map #[] 0)).alloc (.cells #[.map (some w.heap.size)] 71)) := ((Below.refl w.heap.size w).alloc (Nat.le_refl _) _).alloc (by omega) _
  have hM0 : HeldM ((w.alloc (.map #[] 0)).alloc (.cells #[.map (some w.heap.size)] 71)) (w.heap.size + 1) w.heap.size [] := by
    refine ⟨?_, hK0.later ((Below.refl _ _).alloc (Nat.le_refl _) _)⟩
    have := Boxed.new (w.alloc (.map #[] 0)) 71 (.map (some w.heap.size))
    rw [hz] at this
    exact this
  clear hK0 hz
  go_enter Tryd.func35, Tryd.ntmps35
  go_wp2
  go_loopw [5, 9] (fun _ i wr => ∃ k : Nat, k ≤ l.length ∧ i = .int .i64 k ∧ HeldM wr (w.heap.size + 1) w.heap.size ((l.take k).map Ascii.lower) ∧ Below w.heap.size w wr) (fun _ i _ => l.length - (intOf i).toNat)
  case atStart => exact ⟨0, Nat.zero_le _, rfl, hM0, hB0⟩
  case round =>
    obtain ⟨k, hk, rfl, ⟨hbx, hks⟩, hB⟩ := hrel
    clear hM0 hB0
    by_cases hlt : k < l.length
    · obtain ⟨b, off, rfl, hcell⟩ := H4.out (by intro e; rw [e] at hlt; simp at hlt)
      have g : wr.cell? ⟨b, off + k, none⟩ = _ := (hB.cell (p := ⟨b, off + k, none⟩) (World.block_lt_of_cell? _ _ (hcell k hlt))).trans (hcell k hlt)
      have hkc : k < c := by omega
      have hts := hs _ (List.getElem_mem hlt)
      have HN := Lib.hid (low_snoc l k hlt)
      have hkl : ((l.take k).map Ascii.lower).length ≤ 100000 := by rw [List.length_map, List.length_take]; omega
      obtain ⟨t, ht⟩ : ∃ t, l[k] = t := ⟨_, rfl⟩
      rw [ht] at g hts HN
      generalize (l.take k).map Ascii.lower = ks at hks HN hkl
      have hll : (Ascii.lower t).length = t.length := by unfold Ascii.lower; rw [List.length_map]
      have hc0 := hbx.cell
      have hbl := hbx.lt
      have hwb := hB.size
      clear hcell ht
      go_wp2
      go_region_law (go_simp; go_at_call 22; refine (Ascii.lower_calls ⟨t.toArray⟩ (by show t.length ≤ _; unfold maxLen; omega) (by show t.length ≤ _; omega) _).mono ?_; rintro e w1 ⟨rfl, hB1⟩; have hv1 : Boxed w1 (w.heap.size + 1) 71 (.map (some w.heap.size)) := Path.boxed_below (W := wr.drew) hbx hB1; have hc1 := hv1.cell; obtain ⟨w2, hrun, hk2, hg2⟩ := (KeysAt.later (W := wr.drew) hks hB1).put ⟨(Ascii.lower t).toArray⟩ (by show (Ascii.lower t).length ≤ _; unfold maxLen; omega) (by unfold maxLen; omega))
      all_goals
        have hv2 : Boxed w2 (w.heap.size + 1) 71 (.map (some w.heap.size)) := (hg2.block _ hv1.lt (by simp)).trans hv1
        have hBd := hB.drew.trans (hB1.mono hwb)
        have hB2 := hBd.grown hg2 hBd.size (fun j e => by cases e; exact Nat.le_refl _)
        have hk3 : KeysAt w2 w.heap.size ((l.take (k + 1)).map Ascii.lower) := by rw [HN.out]; exact hk2
        clear hk2 hrun hg2 hB1 hv1 hc1 hBd hB
        go_wp2
        go_roundw
        case rel => exact ⟨k + 1, by omega, by go_num, ⟨hv2, hk3⟩, hB2⟩
        case measure => simp [intOf]; omega
    · obtain rfl : k = l.length := by omega
      rw [List.take_of_length_le (Nat.le_refl _)] at hks
      have hc0 := hbx.cell
      go_wp2
      go_ret
      exact ⟨_, rfl, ⟨_, hc0, hks⟩, hB⟩

theorem named_any (v : Value) (l : List T) (hl : l.length ≤ 100000) (hs : ∀ t ∈ l, t.length ≤ 1000000) (w : World) (h : Strs w v l) :
    Calls Tryd.prog 35 #[v] w fun e w' => ∃ B, e = .returned (.func (.func 54) #[] #[.pointer (some ⟨B, 0, none⟩)]) ∧ NamesAt w' B (l.map Ascii.lower) ∧ Below w.heap.size w w' :=
  named_wide v l hl (fun t ht => Nat.le_trans (hs t ht) (by omega)) w h

end Go.Proofs.YtbgebolamkfnlaaDoor.Head
