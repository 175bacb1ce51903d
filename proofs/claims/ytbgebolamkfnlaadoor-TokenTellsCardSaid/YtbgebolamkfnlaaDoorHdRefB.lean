/-
  The document's functions of layer 13: All, Get, Set, Drop.
-/
import Derived.Test.YtbgebolamkfnlaaDoorHdRefA
namespace Go.Proofs.YtbgebolamkfnlaaDoor.Head
set_option linter.unusedSimpArgs false
set_option linter.unusedVariables false
set_option maxRecDepth 100000


open Go.RowKit Go.Shelf

open Url

open Path (Strs tx infoText MaxAt)


theorem same_goes (f : F) (n : T) : (Ascii.lower (tb f.1).data.toList == Ascii.lower n) = goesB [n] f := by
  rw [tb_list, goes_one, Bool.eq_iff_iff]; simp

/-- A slice's field, once its address is known. -/
theorem Flds.at2 {W : World} {b off : Nat} {n c : Nat} {l : List F} (h : Flds W (.slice (some ⟨b, off, none⟩) n c) l) (k : Nat) (hk : k < l.length) : W.cell? ⟨b, off + k * 2, none⟩ = some (.string (tb l[k].1)) ∧ W.cell? ⟨b, off + k * 2 + 1, none⟩ = some (.string (tb l[k].2)) := by
  obtain ⟨b', off', e, -, h0, h1⟩ := h.at_ k hk
  cases e
  exact ⟨h0, h1⟩

theorem alloc_grow {w u u' : World} {o : Obj} (h : Below w.heap.size w u) (h2 : Below w.heap.size (u.alloc o) u') : Below w.heap.size w u' := (h.alloc h.size o).trans h2

/-! ### All -/

set_option maxRecDepth 100000 in
set_option maxHeartbeats 4000000 in
theorem refAll_any (v : Value) (l : List F) (hl : l.length ≤ 100000) (hs : ∀ f ∈ l, f.1.length ≤ 1000000 ∧ f.2.length ≤ 1000000) (n : ByteArray) (hn : n.size ≤ 1000000) (w : World) (h : Flds w v l) :
    Calls Tryd.prog 51 #[v, .string n] w fun e w' => ∃ v', e = .returned v' ∧ Strs w' v' (allL l n.data.toList) ∧ Below w.heap.size w w' := by
  have HF := Lib.hid h
  obtain ⟨a, c, rfl, h1, h2, h3, h4⟩ := h
  unfold maxLen at h2
  clear h3 h4
  go_enter Tryd.func51, Tryd.ntmps51
  go_wp2
  go_loopw [5, 6, 7] (fun o i _ wr => ∃ k : Nat, k ≤ l.length ∧ i = .int .i64 k ∧ OwnS w.heap.size wr o (allL (l.take k) n.data.toList) ∧ Below w.heap.size w wr) (fun _ i _ _ => l.length - (intOf i).toNat)
  case atStart => exact ⟨0, Nat.zero_le _, rfl, OwnS.start w, Below.refl _ _⟩
  case round =>
    obtain ⟨k, hk, rfl, hrow, hB⟩ := hrel
    by_cases hlt : k < l.length
    · obtain ⟨b, off, rfl, hkc, g0, g1⟩ := (HF.out.later hB).at_ k hlt
      have hsz := hs _ (List.getElem_mem hlt)
      have hal : (allL (l.take k) n.data.toList).length ≤ 100000 := Nat.le_trans (all_len _ _) (by rw [List.length_take]; omega)
      have HY := Lib.hid (all_yes l n.data.toList k hlt)
      have HNo := Lib.hid (all_no l n.data.toList k hlt)
      have cG := fun u => Ascii.refSame_wide (tb l[k].1) n (by rw [tb_size]; omega) (by omega) u
      rw [same_goes] at cG
      have HX := Lib.hid (tb_list l[k].2)
      have HR := Lib.hid hrow
      clear g1 hrow hsz
      generalize tb l[k].1 = X at g0 cG
      cases hgb : goesB [n.data.toList] l[k]
      · rw [hgb] at cG
        have hq := Lib.hid (HNo.out hgb)
        clear HY HNo hgb
        go_wp2_with fail
        refine (cG _).mono ?_
        rintro e w2 ⟨rfl, hB2⟩
        have hr2 := HR.out.later hB2
        have hb2 := Ascii.below2 hB hB2
        clear cG hB2 hB g0
        go_wp2
        go_roundw
        case rel => exact ⟨k + 1, by omega, by go_num, by rw [hq.out]; exact hr2, hb2⟩
        case measure => simp [intOf]; omega
      · rw [hgb] at cG
        have hq := Lib.hid (HY.out hgb)
        clear HY HNo hgb
        go_wp2_with fail
        refine (cG _).mono ?_
        rintro e w2 ⟨rfl, hB2⟩
        have hr2 := HR.out.later hB2
        have hb2 := Ascii.below2 hB hB2
        have g1 := ((HF.out.later hb2).at2 k hlt).2
        clear cG hB2 hB g0
        generalize tb l[k].2 = Y at g1 HX
        have hrA := Lib.hid (hr2.later ((Below.refl w2.heap.size w2).alloc (Nat.le_refl _) (.cells #[.string Y] 9)))
        have h1s := strs_one w2 Y
        clear hr2
        go_wp2_with (at_builtin; refine wp_app_strs rfl _ _ rfl rfl hrA.out rfl h1s (by simp; omega) ?_)
        intro vo w3 hO hBb
        have hb3 := alloc_grow hb2 hBb
        clear hrA h1s hBb hb2 g1
        have HO := Lib.hid hO
        clear hO
        go_wp2
        go_roundw
        case rel => exact ⟨k + 1, by omega, by go_num, by have := HO.out; rw [hq.out, ← HX.out]; exact this, hb3⟩
        case measure => simp [intOf]; omega
    · obtain rfl : k = l.length := by omega
      rw [List.take_of_length_le (Nat.le_refl _)] at hrow
      have hst := hrow.strs
      go_wp2
      go_ret
      exact ⟨_, rfl, hst, hB⟩

/-! ### Get -/

theorem join_snoc (x : List T) (t : T) (h : x ≠ []) : Lib.join (x ++ [t]) [44, 32] = Lib.join x [44, 32] ++ [44, 32] ++ t := by
  rw [join_app x [t] [44, 32] h (by simp), Lib.join_one]

set_option maxRecDepth 100000 in
set_option maxHeartbeats 4000000 in
theorem refGet_any (v : Value) (l : List F) (hl : l.length ≤ 60) (hs : ∀ f ∈ l, f.1.length ≤ 300 ∧ f.2.length ≤ 300) (n : ByteArray) (hn : n.size ≤ 1000000) (w : World) (h : Flds w v l) :
    Calls Tryd.prog 32 #[v, .string n] w fun e w' => e = .returned (.tuple #[.string (tb (getT l n.data.toList)), .bool (getB l n.data.toList)]) ∧ Below w.heap.size w w' := by
  have cA := refAll_any v l (by omega) (few_big hs) n hn w h
  obtain ⟨a, c, rfl, -⟩ := h
  have hxl := all_len l n.data.toList
  have HM := Lib.hid (fun t (ht : t ∈ allL l n.data.toList) => show t.length ≤ 300 from by obtain ⟨f, hf, rfl⟩ := all_mem l _ t ht; exact (hs f hf).2)
  have HG := Lib.hid (show getT l n.data.toList = Lib.join (allL l n.data.toList) [44, 32] from rfl)
  have HGB := Lib.hid (show getB l n.data.toList = decide (0 < (allL l n.data.toList).length) from rfl)
  generalize getT l n.data.toList = G at HG ⊢
  generalize getB l n.data.toList = GB at HGB ⊢
  generalize allL l n.data.toList = x at cA hxl HM HG HGB
  go_enter Tryd.func32, Tryd.ntmps32
  go_wp2_with fail
  refine cA.mono ?_
  rintro e w1 ⟨vx, rfl, hX, hB1⟩
  have HXS := Lib.hid hX
  obtain ⟨ax, cx, rfl, hx1, -, -, hx4⟩ := hX
  clear cA
  have H4 := Lib.hid hx4
  clear hx4
  go_wp2
  go_loop [7, 8] (fun s i => ∃ k : Nat, k ≤ x.length ∧ i = .int .i64 k ∧ s = .string (tb (Lib.join (x.take k) [44, 32]))) (fun _ i => x.length - (intOf i).toNat)
  case atStart => exact ⟨0, Nat.zero_le _, rfl, rfl⟩
  case round =>
    obtain ⟨k, hk, rfl, rfl⟩ := hrel
    by_cases hlt : k < x.length
    · obtain ⟨b, off, rfl, hcell⟩ := H4.out (by intro e; rw [e] at hlt; simp at hlt)
      have g0 : w1.cell? ⟨b, off + k, none⟩ = some (.string (tb x[k])) := hcell k hlt
      have hkc : k < cx := by omega
      have hjl := join_len (x.take k) 300 (fun t ht => HM.out t (List.mem_of_mem_take ht))
      rw [List.length_take] at hjl
      have hjl2 : min k x.length * (300 + 2) ≤ 60 * 302 := Nat.mul_le_mul (by omega) (by omega)
      have hs0 : (tb (Lib.join (x.take k) [44, 32])).size ≤ 20000 := by rw [tb_size]; omega
      have hs1 : (tb x[k]).size ≤ 300 := by rw [tb_size]; exact HM.out _ (List.getElem_mem hlt)
      clear hcell hjl hjl2
      rcases Nat.eq_zero_or_pos k with hz | hz
      · have hgt : decide ((0 : Int) < (k : Int)) = false := decide_eq_false (by omega)
        have hnk : ¬ 0 < k := by omega
        have HN := Lib.hid (show tb (Lib.join (x.take k) [44, 32]) ++ tb x[k] = tb (Lib.join (x.take (k + 1)) [44, 32]) by
          rw [List.take_succ_eq_append_getElem hlt]
          subst hz
          rw [List.take_zero, List.nil_append, Lib.join_one, ← tb_app]
          rfl)
        clear hz
        generalize tb (Lib.join (x.take k) [44, 32]) = S0 at hs0 HN ⊢
        generalize tb x[k] = S1 at g0 hs1 HN
        go_wp2
        go_round
        case rel => exact ⟨k + 1, by omega, by go_num, by rw [← HN.out]⟩
        case measure => simp [intOf]; omega
      · have hgt : decide ((0 : Int) < (k : Int)) = true := decide_eq_true (by omega)
        have hnk : 0 < k := hz
        have HN := Lib.hid (show tb (Lib.join (x.take k) [44, 32]) ++ ⟨#[44, 32]⟩ ++ tb x[k] = tb (Lib.join (x.take (k + 1)) [44, 32]) by
          rw [List.take_succ_eq_append_getElem hlt, join_snoc _ _ (by intro e; have := congrArg List.length e; rw [List.length_take, List.length_nil] at this; omega), tb_app, tb_app]
          rfl)
        clear hz
        generalize tb (Lib.join (x.take k) [44, 32]) = S0 at hs0 HN ⊢
        generalize tb x[k] = S1 at g0 hs1 HN
        go_wp2
        go_round
        case rel => exact ⟨k + 1, by omega, by go_num, by rw [← HN.out]⟩
        case measure => simp [intOf]; omega
    · obtain rfl : k = x.length := by omega
      rw [List.take_of_length_le (Nat.le_refl _), ← HG.out]
      have hd : decide (0 < x.length) = GB := HGB.out.symm
      go_wp2
      go_ret2
      exact ⟨by first | rfl | (rw [hd]; rfl), hB1⟩

/-! ### Set -/

def anyG (l : List F) (n : T) : Bool := l.any (goesB [n])

theorem any_snoc (l : List F) (k : Nat) (h : k < l.length) (n : T) : anyG (l.take (k + 1)) n = (anyG (l.take k) n || goesB [n] l[k]) := by
  unfold anyG
  rw [List.take_succ_eq_append_getElem h, List.any_append]
  simp

theorem drop_same (l : List F) (n : T) (h : anyG l n = false) : dropL l [n] = l := by
  unfold dropL
  rw [List.filter_eq_self]
  intro f hf
  unfold anyG at h
  rw [List.any_eq_false] at h
  have := h f hf
  simpa using this

theorem tw_same (l : List F) (n : T) (h : anyG l n = false) : (l.takeWhile fun f => !goesB [n] f) = l ∧ (l.dropWhile fun f => !goesB [n] f) = [] := by
  unfold anyG at h
  rw [List.any_eq_false] at h
  induction l with
  | nil => exact ⟨rfl, rfl⟩
  | cons f l ih =>
    have hf : (!goesB [n] f) = true := by have := h f (by simp); simpa using this
    obtain ⟨i1, i2⟩ := ih (fun g hg => h g (by simp [hg]))
    rw [List.takeWhile_cons_of_pos (p := fun f => !goesB [n] f) hf, List.dropWhile_cons_of_pos (p := fun f => !goesB [n] f) hf, i1, i2]
    exact ⟨rfl, rfl⟩

theorem tw_has (l r : List F) (n : T) (h : anyG l n = true) : ((l ++ r).takeWhile fun f => !goesB [n] f) = (l.takeWhile fun f => !goesB [n] f) ∧ ((l ++ r).dropWhile fun f => !goesB [n] f) = (l.dropWhile fun f => !goesB [n] f) ++ r := by
  unfold anyG at h
  induction l with
  | nil => cases h
  | cons f l ih =>
    rw [List.cons_append]
    cases hf : goesB [n] f
    · have hp : (!goesB [n] f) = true := by rw [hf]; rfl
      obtain ⟨i1, i2⟩ := ih (by rw [List.any_cons, hf] at h; exact h)
      rw [List.takeWhile_cons_of_pos (p := fun f => !goesB [n] f) hp, List.dropWhile_cons_of_pos (p := fun f => !goesB [n] f) hp, List.takeWhile_cons_of_pos (p := fun f => !goesB [n] f) hp, List.dropWhile_cons_of_pos (p := fun f => !goesB [n] f) hp, i1, i2]
      exact ⟨rfl, rfl⟩
    · have hp : ¬ (!goesB [n] f) = true := by rw [hf]; simp
      rw [List.takeWhile_cons_of_neg (p := fun f => !goesB [n] f) hp, List.dropWhile_cons_of_neg (p := fun f => !goesB [n] f) hp, List.takeWhile_cons_of_neg (p := fun f => !goesB [n] f) hp, List.dropWhile_cons_of_neg (p := fun f => !goesB [n] f) hp]
      exact ⟨rfl, rfl⟩

/-- Set, so far. -/
def setP (l : List F) (n v : T) : List F := if anyG l n then setL l n v else l

theorem setP_end (l : List F) (n v : T) : (if anyG l n then setP l n v else setP l n v ++ [(n, v)]) = setL l n v := by
  unfold setP
  cases h : anyG l n
  · unfold setL
    obtain ⟨h1, h2⟩ := tw_same l n h
    rw [h1, h2, drop_same l n h]
    rfl
  · rfl

theorem setP_no (l : List F) (k : Nat) (h : k < l.length) (n v : T) (hg : goesB [n] l[k] = false) : setP (l.take (k + 1)) n v = setP (l.take k) n v ++ [l[k]] := by
  unfold setP
  rw [any_snoc l k h, hg, Bool.or_false]
  rw [List.take_succ_eq_append_getElem h]
  cases ha : anyG (l.take k) n
  · rfl
  · obtain ⟨h1, h2⟩ := tw_has (l.take k) [l[k]] n ha
    show setL _ n v = setL _ n v ++ _
    unfold setL
    rw [h1, h2, drop_app, List.append_assoc, List.cons_append]
    rw [show dropL [l[k]] [n] = [l[k]] from drop_same _ _ (by unfold anyG; simp [hg])]

theorem setP_first (l : List F) (k : Nat) (h : k < l.length) (n v : T) (hg : goesB [n] l[k] = true) (ha : anyG (l.take k) n = false) : setP (l.take (k + 1)) n v = setP (l.take k) n v ++ [(n, v)] := by
  unfold setP
  rw [any_snoc l k h, hg, Bool.or_true, ha]
  rw [List.take_succ_eq_append_getElem h]
  show setL _ n v = l.take k ++ _
  obtain ⟨h1, h2⟩ := tw_same (l.take k) n ha
  unfold setL
  have hp : ¬ (!goesB [n] l[k]) = true := by rw [hg]; simp
  have e1 : ((l.take k ++ [l[k]]).takeWhile fun f => !goesB [n] f) = l.take k := by
    rw [List.takeWhile_append_of_pos (by
      intro f hf
      unfold anyG at ha
      rw [List.any_eq_false] at ha
      have := ha f hf
      simpa using this), List.takeWhile_cons_of_neg (p := fun f => !goesB [n] f) hp, List.append_nil]
  have e2 : ((l.take k ++ [l[k]]).dropWhile fun f => !goesB [n] f) = [l[k]] := by
    rw [List.dropWhile_append_of_pos (by
      intro f hf
      unfold anyG at ha
      rw [List.any_eq_false] at ha
      have := ha f hf
      simpa using this), List.dropWhile_cons_of_neg (p := fun f => !goesB [n] f) hp]
  rw [e1, e2, drop_same _ _ ha]
  congr 1
  unfold dropL
  simp [hg]

theorem setP_more (l : List F) (k : Nat) (h : k < l.length) (n v : T) (hg : goesB [n] l[k] = true) (ha : anyG (l.take k) n = true) : setP (l.take (k + 1)) n v = setP (l.take k) n v := by
  unfold setP
  rw [any_snoc l k h, hg, Bool.or_true, ha]
  rw [List.take_succ_eq_append_getElem h]
  show setL _ n v = setL _ n v
  obtain ⟨h1, h2⟩ := tw_has (l.take k) [l[k]] n ha
  unfold setL
  rw [h1, h2, drop_app]
  rw [show dropL [l[k]] [n] = [] by unfold dropL; simp [hg], List.append_nil]

theorem setP_len (l : List F) (n v : T) : (setP l n v).length ≤ l.length + 1 := by
  unfold setP
  split
  · rw [set_len]; have := drop_len l [n]; omega
  · omega

theorem goes_snoc (ns : List T) (j : Nat) (h : j < ns.length) (f : F) : goesB (ns.take (j + 1)) f = (goesB (ns.take j) f || (Ascii.lower f.1 == Ascii.lower ns[j])) := by
  unfold goesB
  rw [List.take_succ_eq_append_getElem h, List.map_append]
  rw [Bool.eq_iff_iff]
  simp only [List.contains_iff_mem, List.mem_append, List.map_cons, List.map_nil, List.mem_singleton, Bool.or_eq_true, beq_iff_eq]

end Go.Proofs.YtbgebolamkfnlaaDoor.Head
